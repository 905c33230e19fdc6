/- What is laid down in the place of some kids of a node, and what that node is «to» have then -/
import Derived.Test.YthkfkhejjmhomaaGreatDoorDb37
namespace Go.Proofs.YthkfkhejjmhomaaGreatDoor
open Go Go.RowKit Go.Proofs
section
variable {D:DM}{S0:Sp}{C0:Ct}{O H H0:List Int}{P:Pl}
theorem qe0 {R:Int->Nd × Int}{l:Nat}{N:Nd}{A B C:List Zz}(h:N=⟨((l+1:Nat):Int),[],(A++(B++C)).map Qn⟩)(e:∀x∈A,good1 R l x)(f:∀x∈C,good1 R l x):Outside R (l+1) N A.length (A.length+B.length) (A.map (·.2)) (C.map (·.2)):=by
 refine⟨⟨A,?_,rfl,e⟩,⟨C,?_,rfl,f⟩,by rw[h],by rw[List.length_map],by rw[h];unfold Nd.size;simp[Nat.add_assoc],by omega⟩
 ·rw[h,q26];simp
 ·rw[h,q26];have d:(A++(B++C)).drop (A.length+B.length)=C:=by
   rw[<-List.append_assoc,<-List.length_append,List.drop_left]
  rw[d,List.take_of_length_le];unfold Nd.size;simp only[List.length_nil,List.length_map,List.length_append];omega
theorem qmg {R R':Int->Nd × Int}{l:Nat}{N:Nd}{M:List (List Qb)}(G:Yv R l N M)(h1:Qp (l:Int)<=M.length)(h2:M.length<=2*Qo (l:Int))(e:Ext R R'){f:List Int}(d:f.length=(pieces N).length)(p:Uz R' (pieces N) f) :
  ∃T:List Zz,List.zipWith Wl (pieces N) f=T.map Qn/\(∀x∈T,good1 R' l x)/\(T.map (·.2)).flatten=M.flatten/\T.map (·.1)=f/\1<=T.length/\T.length<=2:=by
 have I:Qp (l:Int)*2=Qo (l:Int)/\3<=Qp (l:Int):=by unfold Qp Qo;split<;>omega
 rcases q7m G h2 with⟨m,_⟩|⟨J,k2,m,y⟩|⟨J,E,F,rfl,m,y,K,Q,U⟩
 ·rw[m] at h1;simp at h1;omega
 ·rw[m] at d p ⊢;match f,d with
  |[a],_=>
   obtain⟨j1,j2⟩:=p (N.cut 0 M.length,a) (List.mem_singleton.2 rfl);obtain⟨A,B⟩:=q3e y h1 e j1 j2;refine⟨[(a,M.flatten)],?_,λx u=>?_,by simp,rfl,by simp,by simp⟩
   ·show [Wl _ a]=_;rw[B];rfl
   ·rw[List.mem_singleton.1 u];exact A
  |[],d=>cases d
  |_::_::_,d=>cases d
 ·rw[m] at d p ⊢;match f,d with
  |[a1,a2],_=>
   obtain⟨W,Y⟩:=p (_,a1) (List.mem_cons_self ..);obtain⟨X,Z⟩:=p (_,a2) (List.mem_cons_of_mem _ (List.mem_singleton.2 rfl));obtain⟨A,B⟩:=q3e y Q e W Y;obtain⟨t2,u2⟩:=q3e K U e X Z;refine⟨[(a1,E.flatten),(a2,F.flatten)],?_,λx u=>?_,by simp,rfl,by simp,by simp⟩
   ·show [Wl _ a1,Wl _ a2]=_;rw[B,u2];rfl
   ·rcases List.mem_cons.1 u with rfl|u
    ·exact A
    ·rw[List.mem_singleton.1 u];exact t2
  |[],d=>cases d
  |[_],d=>cases d
  |_::_::_::_,d=>cases d
structure Since (D:DM)(O O' H0:List Int)(P P':Pl)(k:Nat):Prop where
 old:∀l a t,a∈H0->Qm (P.hide D O) l a t->Qm (P'.hide D O') l a t
 free:P.C.free<=P'.C.free+k
 n:P'.C.n=P.C.n
theorem Since.trans {O' O'':List Int}{P' P'':Pl}{k k':Nat}(h:Since D O O' H0 P P' k)(h2:Since D O' O'' H0 P' P'' k'):Since D O O'' H0 P P'' (k+k'):=
 ⟨λl a t d e=>h2.old l a t d (h.old l a t d e),by have:=h.free;have:=h2.free;omega,h2.n.trans h.n⟩
theorem Since.fin {O':List Int}{P' P'':Pl}{k k':Nat}{r:Int}{its:List Qb}(h:Since D O O' H0 P P' k)(f:Qac D S0 C0 O' H0 P' P'' r its k'):Qac D S0 C0 O H0 P P'' r its (k+k'):=
 ⟨f.keep,f.tree,λl a t d e=>f.old l a t d (h.old l a t d e),by have:=h.free;have:=f.free;omega,f.n.trans h.n⟩
theorem q5a {d:List Int}{P':Pl}{l:Int}{k:Nat}(m:Move l D O d P P' k)(H0:List Int):Since D O d H0 P P' k:=⟨λ_ _ _ _ e=>Sz m.ext e,m.free,m.n⟩
def Wh (s:Qs)(l i j:Nat):List Int:=if s.shared=true then [] else if l=0 then (s.N.cut i j).named else []
structure Ec (D:DM)(S0:Sp)(C0:Ct)(O H H0:List Int)(P:Pl)(l:Nat)(s:Qs)(way:List Qs)(L Rr:List Qb)(i j:Nat)(come:Nd)(ML Mc MR:List (List Qb)):Prop where
 keep:Keep D S0 C0 O H P
 spot:Zj P D O (l:Int) s
 up:Ya P D O l s way L Rr
 out:Outside (P.hide D O) l s.N i j ML MR
 Rh:Yv (P.hide D O) l come Mc
 gone:(Wh s l i j).length<=1/\∀c∈Wh s l i j,P.hide D O c=(U0,0)
 held:∀a:Nat,0<a->a<P.C.n->H.count (a:Int)=(own s++((if s.shared=true then [] else (Zl s i j).named)++(Wh s l i j++(come.named++Zi way H0)))).count (a:Int)
 dat:∀x∈(ML++(Mc++MR)).flatten,Dat (P.hide D O) x
 opens:∀y∈O,(s.shared=false/\y=s.addr)\/∃t∈way,t.shared=false/\y=t.addr
 rise:Ql (L++((ML++(Mc++MR)).flatten++Rr))
 fine:∀x∈L++((ML++(Mc++MR)).flatten++Rr),Zr x
 few:(L++((ML++(Mc++MR)).flatten++Rr)).length<=1000
 H0s:H0.length<=10000
 most:(ML++(Mc++MR)).length<=Qo (l:Int)+1
 least:way≠[]->Qp (l:Int)<=(ML++(Mc++MR)).length+1
 one:0<l->1<=(ML++(Mc++MR)).length
 high:l+way.length<=7
theorem qap:∀{way:List Qs} {l:Nat} {s:Qs} {L Rr:List Qb},Ya P D O l s way L Rr->(Zi way H0).length<=H0.length+14*way.length
 |[],l,s,L,Rr,_=>by show H0.length<=_;omega
 |t::way,l,s,L,Rr,h=>by
  obtain⟨m,p,x,E,F,e,A,G,I,B,J,K,M,Q,f,u,y⟩:=h;have U:=qap f;have d:=(Pe B (by rw[e];show ¬((l+1:Nat):Int)=0;omega)).2.2.2.2.1;rw[e] at d;have d:((m++x::p).map Qn).length<=12:=d;simp only[List.length_map,List.length_append,List.length_cons] at d;have R:(own t).length<=1:=by unfold own;split<;>simp
  have T:(if t.shared=true then [] else (Zl t t.next (t.next+1)).named).length<=12:=by
   split
   ·simp
   ·rw[q27 e A,List.length_append,List.length_map,List.length_map];omega
  show (own t++((if t.shared=true then [] else (Zl t t.next (t.next+1)).named)++Zi way H0)).length<=_;rw[List.length_append,List.length_append,List.length_cons];omega
theorem qfv (s:Qs)(i j:Nat)(d:Nd)(a:Int):(Xt s i j d).named.count a=(Zl s i j).named.count a+d.named.count a:=by
 unfold Xt Zl;rw[q55,q55];simp only[List.map_cons,List.map_nil,List.sum_cons,List.sum_nil];omega
theorem qmh {O:List Int}{c:Int}(h:c∉O):less1 (c::O) c=O:=by
 unfold less1;rw[List.filter_cons_of_neg (by simp)];exact List.filter_eq_self.2 λx d=>by
  have:x≠c:=λe=>h (e▸d)
  simpa using this
theorem qk5 {R:Int->Nd × Int}{l:Nat}{a c:Int}{t:List Qb}(h:Qm R l a t)(hd:R c=(U0,0)):a≠c:=λe=>by
 have h1:=(D8 h).2.1;rw[e,hd] at h1;have h2:(-1:Int)=(l:Int):=h1;omega
theorem qqh (K:Keep D S0 C0 O H P){s:Qs}{way:List Qs}{L Rr:List Qb}(Y:Zj P D O ((0:Nat):Int) s)(u:Ya P D O 0 s way L Rr)(A:s.shared=false){c:Int}(hd:P.hide D O c=(U0,0)){X:List Int}
  (I:∀a:Nat,0<a->a<P.C.n->H.count (a:Int)=(c::X).count (a:Int)) (hX:∀a∈Zi way H0,a∈X) :
  P.C.Jm c=0/\Keep D S0 C0 O X ⟨P.S,P.C.Qq c,P.L⟩/\Zj ⟨P.S,P.C.Qq c,P.L⟩ D O ((0:Nat):Int) s/\Ya ⟨P.S,P.C.Qq c,P.L⟩ D O 0 s way L Rr/\Since D O O H0 P ⟨P.S,P.C.Qq c,P.L⟩ 0/\
   ∀x,Dat (P.hide D O) x->(∀d,Uc x=some d->d∈X)->Dat (Pl.hide ⟨P.S,P.C.Qq c,P.L⟩ D O) x:=by
 obtain⟨T,n,rfl,hn,h0⟩:=q30 (P:=P) (D:=D) (O:=O) (x:=c) (by rw[hd]);have W:P.Qi D (n:Int)≠0:=by
  rw[Td T] at hd;exact (qdn K.Zx hd).2
 have a1:(P.Qd D (n:Int)).lvl=0:=by rw[qa2 W];rfl
 obtain⟨c0,_⟩:=K.first h0
 have m:(n:Int)∈H:=List.count_pos_iff.1 (by rw[I n c0 hn,List.count_cons];simp);obtain⟨m1,m2,m3,m4⟩:=Y.mine A;have p:s.addr≠(n:Int):=λe=>W (by rw[<-e];exact m4)
 have Q:=q91 u m1;have other:∀x:Int,x≠(n:Int)->(P.C.Qq (n:Int)).get x=P.C.get x/\Pl.store ⟨P.S,P.C.Qq (n:Int),P.L⟩ D x=P.store D x:=λx p=>by
  rw[(q8x h0).2];exact qa7 p
 have B:Zj ⟨P.S,P.C.Qq (n:Int),P.L⟩ D O ((0:Nat):Int) s:=Y.other (s:=⟨Zp,(n:Int),0,false,false⟩) (.inr p) (λx F=>other x F) λ_ _=>Iff.rfl
 by_cases h1:P.C.get (n:Int)=1
 ·have J:=K.open_ h1 m T;rw[q7f hd,List.nil_append] at J;obtain⟨M,G,U⟩:=J.drop (H0:=X) (List.mem_cons_self ..) I;have f:=U 0 (by omega);rw[qmh T] at G f;have y:(n:Int)∉X:=λhm=>by
   have h2:=(K.once h1 m).1;rw[I n c0 hn,List.count_cons] at h2;have:=List.count_pos_iff.2 hm;simp at h2;omega
  have E:=u.open_ K h1 m Q A (H0:=H0) (λhm=>y (hX _ hm));refine⟨M,G,B,E.ext J f.ext f.above (Nat.le_refl _),⟨λl a t _ Z=>Sz f.ext (q3b K h1 m l a t (qk5 Z hd) Z),by have:=f.free;omega,f.n⟩,λx F R=>(qjj F λe=>y (R _ e)).ext f.ext⟩
 ·have h2:2<=P.C.get (n:Int):=by
   have:=K.nonneg (n:Int);omega
  obtain⟨M,G,U⟩:=K.Qq (H0:=X) h2 I;have f:=U 0 (by omega);exact⟨M,G,B,u.ext K f.ext f.above (Nat.le_refl _),q5a f H0,λx F _=>F.ext f.ext⟩
theorem qc7 {l:Nat}{s:Qs}{way:List Qs}{L Rr:List Qb}{i j:Nat}{f:Nd}{K Q M:List (List Qb)}(h:Ec D S0 C0 O H H0 P l s way L Rr i j f K Q M) :
  ∃y,P.Q8 s i j=some y/\Keep D S0 C0 O (own s++((Xt s i j f).named++Zi way H0)) y/\Yv (y.hide D O) l (Xt s i j f) (K++(Q++M))/\Zj y D O (l:Int) s/\Ya y D O l s way L Rr/\Since D O O H0 P y 0/\∀x∈(K++(Q++M)).flatten,Dat (y.hide D O) x:=by
 have G:∀x∈(K++M).flatten,Dat (P.hide D O) x:=λx u=>h.dat x (by
  simp only[List.flatten_append,List.mem_append] at u ⊢;rcases u with h|h
  ·exact .inl h
  ·exact .inr (.inr h))
 have Y:∀x∈Q.flatten,Dat (P.hide D O) x:=λx u=>h.dat x (by
  simp only[List.flatten_append,List.mem_append];exact .inr (.inl u))
 have a7:Qo (l:Int)<=12:=by unfold Qo;split<;>omega
 have a2:=h.most;simp only[List.length_append] at a2;have B:=h.keep.perm λa h1 h2=>(h.held a h1 h2).symm
 have n1:=(q8z (qjq h.out) G).2;have n2:=(q8z h.Rh Y).2;have n3:=qap (H0:=H0) h.up;have n4:(own s).length<=1:=by unfold own;split<;>simp
 have n5:=h.high;have n6:=h.H0s;have T:=h.gone.1;rw[List.length_append] at n1;by_cases A:Wh s l i j=[]
 ·rw[A,List.nil_append] at B;obtain⟨y,F,U,E⟩:=q8c B h.out G (λh1 h2=>by
   unfold Wh at A;rw[h1,if_neg (by decide),if_pos h2] at A;exact A) (by omega) (by
   have T:(if s.shared=true then [] else (Zl s i j).named).length<=(Zl s i j).named.length:=by
    split
    ·exact Nat.zero_le _
    ·exact Nat.le_refl _
   rw[List.length_append,List.length_append,List.length_append];omega)
  refine⟨y,F,U.perm λa _ _=>?_,qpr (qpx h.out h.Rh) (E 0).ext,h.spot.above B (E ((l:Int)-1)).above (by omega),h.up.ext B (E (l:Int)).ext (E (l:Int)).above (Nat.le_refl _),q5a (E 0) H0,λx u=>(h.dat x u).ext (E 0).ext⟩;simp only[List.count_append,qfv];by_cases R:s.shared=true
  ·rw[if_pos R,if_pos R];simp only[List.count_nil];omega
  ·rw[if_neg R,if_neg R];simp only[List.count_nil];omega
 ·obtain⟨c,m⟩:∃c,Wh s l i j=[c]:=by
   match Wh s l i j,A,T with
   |[c],_,_=>exact⟨c,rfl⟩
   |[],A,_=>exact absurd rfl A
   |_::_::_,_,T=>simp at T
  have p:s.shared=false:=by
   cases e:s.shared with
   |false=>rfl
   |true=>unfold Wh at m;rw[e,if_pos rfl] at m;cases m
  have hl:l=0:=by
   refine Classical.byContradiction λe=>?_
   unfold Wh at m;rw[p,if_neg (by decide),if_neg e] at m
   cases m
  subst hl;have hcut:(s.N.cut i j).named=[c]:=by
   unfold Wh at m;rw[p,if_neg (by decide),if_pos rfl] at m;exact m
  have hd:=h.gone.2 c (by rw[m];exact List.mem_singleton.2 rfl);rw[m,p,if_neg (by decide)] at B;obtain⟨e0,U,a1,a6,J,I⟩:=qqh (H0:=H0) (X:=own s++((Xt s i j f).named++Zi way H0)) B h.spot h.up p hd (λa _ _=>by
   simp only[List.count_append,List.count_cons,List.count_nil,qfv];omega) (λa ha=>List.mem_append_right _ (List.mem_append_right _ ha))
  have hB:=qpx h.out h.Rh;refine⟨_,?_,U,?_,a1,a6,J,λx u=>I x (h.dat x u) λd Z=>?_⟩
  ·unfold Pl.Q8;rw[p,if_neg (by decide),h.out.lvl,if_neg (by decide),hcut];show (if P.C.Jm c=0 then _ else none)=_;rw[if_pos e0];rfl
  ·obtain⟨its,F,W⟩:=hB;exact⟨its,F,W⟩
  ·obtain⟨its,F,W⟩:=hB;rw[W,q13] at u;refine List.mem_append_right _ (List.mem_append_left _ ?_);rw[F];exact List.mem_append_right _ (List.mem_filterMap.2 ⟨x,u,Z⟩)
theorem qk6 (K:Keep D S0 C0 O H P){l:Nat}{t:Qs}{way:List Qs}{L' R':List Qb}{N:Nd}{M:List (List Qb)}{olds:List Qs}{A B C:List Zz}
  (hb:Yv (P.hide D O) l N M) (h1:Qp (l:Int)<=M.length) (h2:M.length<=2*Qo (l:Int)) (hs:∀s∈olds,Zj P D O (l:Int) s) (hd:olds.Pairwise λs o=>o.held=true\/o.addr≠s.addr)
  (hG:t.N=⟨((l+1:Nat):Int),[],(A++(B++C)).map Qn⟩) (hA:∀x∈A,good1 (P.hide D O) l x) (hC:∀x∈C,good1 (P.hide D O) l x) (ht:Zj P D O ((l+1:Nat):Int) t) (b4:Ya P D O (l+1) t way L' R')
  (hH:∀a:Nat,0<a->a<P.C.n->H.count (a:Int)=(olds.flatMap own++(N.named++(own t++((if t.shared=true then [] else A.map (·.1)++C.map (·.1))++Zi way H0)))).count (a:Int))
  (hO:∀y∈O,(∃s∈olds,s.shared=false/\y=s.addr)\/(t.shared=false/\y=t.addr)\/∃t'∈way,t'.shared=false/\y=t'.addr)
  (hB:1<=B.length/\B.length<=2) (hm:A.length+B.length+C.length<=12) (b6:2<=A.length+B.length+C.length) (b1:way≠[]->6<=A.length+B.length+C.length)
  (hr:Ql ((L'++rowOf A)++(M.flatten++(rowOf C++R')))) (hf:∀x∈(L'++rowOf A)++(M.flatten++(rowOf C++R')),Zr x) (a2:((L'++rowOf A)++(M.flatten++(rowOf C++R'))).length<=1000) (f:∀x∈M.flatten,Dat (P.hide D O) x) (a7:H0.length<=10000) (hi:l+1+way.length<=7) :
  (∃m ks I H3 Mc,P.Y3 ⟨N,olds,A.length,A.length+B.length⟩=some (m,some ks)/\Ec D S0 C0 I H3 H0 m (l+1) t way L' R' A.length (A.length+B.length) ⟨N.lvl+1,[],ks⟩ (A.map (·.2)) Mc (C.map (·.2))/\Since D O I H0 P m 2/\
   L'++((A.map (·.2)++(Mc++C.map (·.2))).flatten++R')=(L'++rowOf A)++(M.flatten++(rowOf C++R')))\/(∃m,P.Y3 ⟨N,olds,A.length,A.length+B.length⟩=some (m,none)/\P.C.free<2):=by
 have b5:Qp (l:Int)*2=Qo (l:Int)/\3<=Qp (l:Int):=by unfold Qp Qo;split<;>omega
 have J:∀x∈M.flatten,Zr x:=λx d=>hf x (List.mem_append_right _ (List.mem_append_left _ d))
 have U:Ql M.flatten:=(Md (Md hr).2).1;have b2:=q8g hb h2;have a6:=q7m hb h2;have X:∀p∈pieces N,Fits (P.hide D O) p:=λp R=>by
  rcases a6 with⟨_,e⟩|⟨k1,k2,e,k3⟩|⟨k1,M1,M2,rfl,e,k3,k4,k5,k6⟩
  ·rw[e] at R;cases R
  ·rw[e,List.mem_singleton] at R;rw[R];exact k3.fits (by omega) (λ_=>by omega) U J f
  ·rw[List.flatten_append] at U J f;rw[e] at R;rcases List.mem_cons.1 R with rfl|R
   ·exact k3.fits (by omega) (λ_=>by omega) (Md U).1 (λx d=>J x (List.mem_append_left _ d)) λx d=>f x (List.mem_append_left _ d)
   ·rw[List.mem_singleton] at R;rw[R];exact k4.fits (by omega) (λ_=>by omega) (Md U).2 (λx d=>J x (List.mem_append_right _ d)) λx d=>f x (List.mem_append_right _ d)
 have a1:(pieces N).length<=2:=by
  rcases a6 with⟨_,e⟩|⟨k1,k2,e,k3⟩|⟨k1,M1,M2,_,e,k3,k4,k5,k6⟩<;>rw[e]<;>simp
 rcases qk2 (l:=(l:Int)) K ⟨N,olds,A.length,A.length+B.length⟩ (own t++((if t.shared=true then [] else A.map (·.1)++C.map (·.1))++Zi way H0)) hs hd X (λa h1 h2=>by
   rw[hH a h1 h2,b2]) with⟨m,I,az,g1,W,K3,F,gO,gl⟩|⟨m,g1,W⟩
 ·left
  have g1:az.length=(pieces N).length:=g1;have gl:Uz (m.hide D I) (pieces N) az:=gl;have F:Move (l:Int) D O I P m (pieces N).length:=F;obtain⟨T,t1,t2,t3,t4,t5,t6⟩:=qmg hb h1 h2 F.ext g1 gl;have W:P.Y3 ⟨N,olds,A.length,A.length+B.length⟩=some (m,some (List.zipWith Wl (pieces N) az)):=W;rw[t1] at W;have a8:=q4d hb;have eN:(⟨N.lvl+1,[],T.map Qn⟩:Nd)=⟨((l+1:Nat):Int),[],T.map Qn⟩:=by rw[a8];rfl
  have u:L'++((A.map (·.2)++(T.map (·.2)++C.map (·.2))).flatten++R')=(L'++rowOf A)++(M.flatten++(rowOf C++R')):=by
   rw[List.flatten_append,List.flatten_append,t3];unfold rowOf;simp only[List.append_assoc]
  have b0:Move (l:Int) D O I P m 2:=F.more a1;have Y:Wh t (l+1) A.length (A.length+B.length)=[]:=by
   unfold Wh;split
   ·rfl
   ·rfl
  have Z:Qo ((l+1:Nat):Int)=12:=if_neg (by omega);have Q:Qp ((l+1:Nat):Int)=6:=if_neg (by omega);refine⟨m,_,I,az++(own t++((if t.shared=true then [] else A.map (·.1)++C.map (·.1))++Zi way H0)),T.map (·.2),W,?_,q5a b0 H0,u⟩;rw[eN];refine⟨K3,ht.above K F.above (by omega),b4.ext K F.ext F.above (by omega),qe0 hG (λx d=>q24 (hA x d) F.ext) (λx d=>q24 (hC x d) F.ext),⟨T,rfl,rfl,t2⟩,⟨by rw[Y];exact Nat.zero_le _,λc hc=>by rw[Y] at hc;cases hc⟩,λa _ _=>?_,λx d=>?_,λy hy=>?_,by rw[u];exact hr,by rw[u];exact hf,by rw[u];exact a2,a7,?_,λhw=>?_,λ_=>?_,hi⟩
  ·have e1:(Zl t A.length (A.length+B.length)).named=A.map (·.1)++C.map (·.1):=by
    rw[q7l hG,q10,List.take_left,<-List.append_assoc,<-List.length_append,List.drop_left,List.map_append]
   rw[e1,q10,t4,Y];simp only[List.count_append];split<;>simp only[List.count_append,List.count_nil]<;>omega
  ·obtain⟨r,b3,d⟩:=List.mem_flatten.1 d;have E:∀G:List Zz,(∀x∈G,good1 (m.hide D I) l x)->r∈G.map (·.2)->Dat (m.hide D I) x:=λG hG hm=>by
    obtain⟨y,hy,rfl⟩:=List.mem_map.1 hm;exact K3.dat l _ _ (hG y hy).1 x d
   rcases List.mem_append.1 b3 with h|h
   ·exact E A (λx d=>q24 (hA x d) F.ext) h
   ·rcases List.mem_append.1 h with h|h
    ·exact E T t2 h
    ·exact E C (λx d=>q24 (hC x d) F.ext) h
  ·obtain⟨j1,j2⟩:=gO y hy;rcases hO y j1 with⟨s,k1,k2,k3⟩|h|h
   ·exact absurd k3 (j2 s k1 k2)
   ·exact .inl h
   ·exact .inr h
  ·rw[Z];simp only[List.length_append,List.length_map];omega
  ·rw[Q];have:=b1 hw;simp only[List.length_append,List.length_map];omega
  ·simp only[List.length_append,List.length_map];omega
 ·right
  have W:P.C.free<(pieces N).length:=W;exact⟨m,g1,by omega⟩
end
section
variable {D:DM}{S0:Sp}{C0:Ct}{O H H0:List Int}{P:Pl}
theorem qqi {R:Int->Nd × Int}{l:Nat}{N:Nd}{M:List (List Qb)}(f:Yv R l N M){y:Zz}(p:Qm R l y.1 y.2):y.1∉N.kids.map (·.a):=by
 cases l with
 |zero=>
  obtain⟨its,rfl,_⟩:=f;simp
 |succ l=>
  obtain⟨G,rfl,_,m⟩:=f;intro h;obtain⟨z,u,e⟩:=List.mem_map.1 h;obtain⟨g,d,rfl⟩:=List.mem_map.1 u;have h1:=(D8 (m g d).1).2.1;have h2:=(D8 p).2.1;have e:g.1=y.1:=e;rw[e] at h1;omega
theorem q4h {a:Int}{X:List Int}(h:X.count a=0):a∉X:=λhm=>by
 have:=List.count_pos_iff.2 hm;omega
theorem qe1 (left:Bool){l:Nat}{s t:Qs}{way:List Qs}{L' R':List Qb}{b:Nd}{M:List (List Qb)}{A C:List Zz}{x y:Zz}(K:Keep D S0 C0 O (own s++(b.named++Zi (t::way) H0)) P)(c7:H0.length<=10000)(hi:l+1+way.length<=7)
  (hG:t.N=⟨((l+1:Nat):Int),[],(A++((if left=true then [y,x] else [x,y])++C)).map Qn⟩) (hn:t.next=A.length+if left=true then 1 else 0) (d9:s.held=t.shared) (hm:A.length+2+C.length<=12) (c8:way≠[]->6<=A.length+2+C.length)
  (hA:∀z∈A,good1 (P.hide D O) l z) (hC:∀z∈C,good1 (P.hide D O) l z) (hy:good1 (P.hide D O) l y) (a6:y.1≠s.addr) (ht:Zj P D O ((l+1:Nat):Int) t) (hs:Zj P D O (l:Int) s) (b9:Ya P D O (l+1) t way L' R')
  (hb:Yv (P.hide D O) l b M) (d3:Qp (l:Int)<=M.length+1) (d4:M.length<Qp (l:Int))
  (hO:∀z∈O,(s.shared=false/\z=s.addr)\/(t.shared=false/\z=t.addr)\/∃t'∈way,t'.shared=false/\z=t'.addr)
  (hr:Ql ((L'++rowOf A)++((if left=true then y.2++M.flatten else M.flatten++y.2)++(rowOf C++R')))) (hf:∀z∈(L'++rowOf A)++((if left=true then y.2++M.flatten else M.flatten++y.2)++(rowOf C++R')),Zr z) (b5:((L'++rowOf A)++((if left=true then y.2++M.flatten else M.flatten++y.2)++(rowOf C++R'))).length<=1000) (b4:∀z∈M.flatten,Dat (P.hide D O) z) :
  ∃m F f,P.near D t (if left=true then t.next-1 else t.next+1)=some m/\f=P.Je D t (if left=true then t.next-1 else t.next+1)/\f.N.lvl=(l:Int)/\Since D O F H0 P m 0/\
   ((∃P3 ks O3 H3 Mc,m.Y3 ⟨Zw (l:Int) (if left=true then [f.N,b] else [b,f.N]),(if left=true then [f,s] else [s,f]),A.length,A.length+2⟩=some (P3,some ks)/\Ec D S0 C0 O3 H3 H0 P3 (l+1) t way L' R' A.length (A.length+2) ⟨(l:Int)+1,[],ks⟩ (A.map (·.2)) Mc (C.map (·.2))/\Since D F O3 H0 m P3 2/\
   L'++((A.map (·.2)++(Mc++C.map (·.2))).flatten++R')=(L'++rowOf A)++((if left=true then y.2++M.flatten else M.flatten++y.2)++(rowOf C++R')))\/(∃P3,m.Y3 ⟨Zw (l:Int) (if left=true then [f.N,b] else [b,f.N]),(if left=true then [f,s] else [s,f]),A.length,A.length+2⟩=some (P3,none)/\m.C.free<2)):=by
 have d7:Qp (l:Int)*2=Qo (l:Int)/\3<=Qp (l:Int)/\Qo (l:Int)<=12:=by unfold Qp Qo;split<;>omega
 have d6:∀z∈y.2,Zr z:=λz d=>hf z (by
  refine List.mem_append_right _ (List.mem_append_left _ ?_);split
  ·exact List.mem_append_left _ d
  ·exact List.mem_append_right _ d)
 have d5:∀z∈M.flatten,Zr z:=λz d=>hf z (by
  refine List.mem_append_right _ (List.mem_append_left _ ?_);split
  ·exact List.mem_append_right _ d
  ·exact List.mem_append_left _ d)
 have hq:(A++((if left=true then [y,x] else [x,y])++C))[if left=true then t.next-1 else t.next+1]?=some y:=by
  rw[hn]
  cases left
  ·simp
  ·simp
 have J:∀a,(Zl t t.next (t.next+1)).named.count a=(A.map (·.1)).count a + [y.1].count a+(C.map (·.1)).count a:=λa=>by
  cases left
  ·have e:=q27 (l:=l) (GL:=A) (GR:=y::C) (x:=x) (by rw[hG];simp) (by rw[hn];rfl);rw[e];simp only[List.map_cons,List.count_append,List.count_cons,List.count_nil];omega
  ·have e:=q27 (l:=l) (GL:=A++[y]) (GR:=C) (x:=x) (by rw[hG];simp) (by rw[hn];simp);rw[e];simp only[List.map_append,List.map_cons,List.map_nil,List.count_append,List.count_cons,List.count_nil]
 have b8:∀a,(Zi (t::way) H0).count a=(own t).count a+((if t.shared=true then [] else (Zl t t.next (t.next+1)).named).count a+(Zi way H0).count a):=λa=>by
  show (own t++((if t.shared=true then [] else (Zl t t.next (t.next+1)).named)++Zi way H0)).count a=_;rw[List.count_append,List.count_append]
 have Y:t.shared=false->∀a,(own s++(b.named++Zi (t::way) H0)).count a=(own s).count a+(b.named.count a+((own t).count a+(((A.map (·.1)).count a + [y.1].count a+(C.map (·.1)).count a)+(Zi way H0).count a))):=λh a=>by
  rw[List.count_append,List.count_append,b8,h,if_neg (by decide),J]
 have a1:([y.1]:List Int).count y.1=1:=by simp
 have Z:t.shared=false->y.1∈own s++(b.named++Zi (t::way) H0):=λh=>by
  refine List.count_pos_iff.1 ?_;rw[Y h,a1];omega
 have p:t.shared=false->(own s++(b.named++Zi (t::way) H0)).count y.1=1->y.1∉A.map (·.1)/\y.1∉C.map (·.1)/\y.1∉Zi way H0/\y.1∉own t:=λh h1=>by
  rw[Y h,a1] at h1;exact⟨q4h (by omega),q4h (by omega),q4h (by omega),q4h (by omega)⟩
 obtain⟨_,n,en,_,d2⟩:=q30 (D8 hy.1).2.2;have a7:t.shared=false->P.C.get y.1=1->(own s++(b.named++Zi (t::way) H0)).count y.1=1:=λh h1=>by
  have:=Z h;rw[en] at this h1 ⊢;exact (K.once h1 this).1
 have n3:=qap (H0:=H0) b9;have n4:(own s).length<=1:=by unfold own;split<;>simp
 have n5:=(q8z hb b4).2;have n6:(own t).length<=1:=by unfold own;split<;>simp
 have n7:(Zl t t.next (t.next+1)).named.length<=12:=by
  cases left
  ·have e:=q27 (l:=l) (GL:=A) (GR:=y::C) (x:=x) (by rw[hG];simp) (by rw[hn];rfl);rw[e];simp;omega
  ·have e:=q27 (l:=l) (GL:=A++[y]) (GR:=C) (x:=x) (by rw[hG];simp) (by rw[hn];simp);rw[e];simp;omega
 have b6:(own s++(b.named++Zi (t::way) H0)).length<=20000:=by
  have e:(Zi (t::way) H0).length<=1+(12+(Zi way H0).length):=by
   show (own t++((if t.shared=true then [] else (Zl t t.next (t.next+1)).named)++Zi way H0)).length<=_;rw[List.length_append,List.length_append];split
   ·rw[List.length_nil];omega
   ·omega
  rw[List.length_append,List.length_append];omega
 obtain⟨m,F,E,e1,NB,a2,u,b1,b2,b7⟩:=qqg K (H0:=H0) hG hq hy ht hs a6 b9 b6 (λh1 h2=>by
  obtain⟨_,_,j3,j4⟩:=p h1 (a7 h1 h2);refine⟨Z h1,j3,λe=>j4 ?_⟩;unfold own;rw[(ht.mine h1).1,if_neg (by decide),e];exact List.mem_singleton.2 rfl)
 generalize d8:P.Je D t (if left=true then t.next-1 else t.next+1)=f at e1 NB a2 u b1 b2 b7;have I:∀z∈A++C,good1 (P.hide D O) l z->good1 (m.hide D F) l z:=λz d hg=>by
  rcases NB.once with⟨j1,_,j3,j4⟩|⟨_,j2⟩
  ·obtain⟨i1,i2,_,_⟩:=p j4 j3;refine NB.near.good (λe=>?_) hg;rcases List.mem_append.1 d with h|h
   ·exact i1 (e▸List.mem_map_of_mem h)
   ·exact i2 (e▸List.mem_map_of_mem h)
  ·exact q24 hg j2
 have b3:Yv (m.hide D F) l b M:=NB.near.Fa (qqi hb hy.1) hb;have X:Since D O F H0 P m 0:=⟨λl a its ha W=>by
  rcases NB.once with⟨j1,_,j3,j4⟩|⟨_,j2⟩
  ·obtain⟨_,_,i3,_⟩:=p j4 j3;exact NB.near.tree l a its (λe=>i3 (e▸restH_sub way ha)) W
  ·exact Sz j2 W,by have:=NB.free;omega,NB.n⟩
 have c6:0<=(P.hide D O y.1).1.lvl:=by rw[(D8 hy.1).2.1];exact Int.natCast_nonneg l
 have T:∀z∈(E++M).flatten,Dat (m.hide D F) z:=λz d=>by
  rw[List.flatten_append,u] at d;rcases List.mem_append.1 d with h|h
  ·exact NB.near.dat c6 (K.dat l _ _ hy.1 z h)
  ·exact NB.near.dat c6 (b4 z h)
 have hJ:Yv (m.hide D F) l (Zw (l:Int) (if left=true then [f.N,b] else [b,f.N])) (if left=true then E++M else M++E):=by
  cases left
  ·have:=q6l (R:=m.hide D F) (l:=l) [(b,M),(f.N,E)] (λz d=>by
    rcases List.mem_cons.1 d with rfl|d
    ·exact b3
    ·rw[List.mem_singleton.1 d];exact a2)
   simpa using this
  ·have:=q6l (R:=m.hide D F) (l:=l) [(f.N,E),(b,M)] (λz d=>by
    rcases List.mem_cons.1 d with rfl|d
    ·exact a2
    ·rw[List.mem_singleton.1 d];exact b3)
   simpa using this
 have e0:∀z∈(if left=true then E++M else M++E).flatten,Dat (m.hide D F) z:=λz d=>T z (by
  rw[List.flatten_append];split at d
  ·rw[List.flatten_append] at d;exact d
  ·rw[List.flatten_append] at d;rcases List.mem_append.1 d with h|h
   ·exact List.mem_append_right _ h
   ·exact List.mem_append_left _ h)
 have c9:∀a,(Zw (l:Int) (if left=true then [f.N,b] else [b,f.N])).named.count a=f.N.named.count a+b.named.count a:=λa=>by
  rw[q55]
  cases left
  ·simp only[Bool.false_eq_true,if_false,List.map_cons,List.map_nil,List.sum_cons,List.sum_nil];omega
  ·simp only[if_true,List.map_cons,List.map_nil,List.sum_cons,List.sum_nil];omega
 have U:(if left=true then E++M else M++E).flatten=if left=true then y.2++M.flatten else M.flatten++y.2:=by
  cases left
  ·simp[u]
  ·simp[u]
 have b0:(if left=true then E++M else M++E).length=E.length+M.length:=by
  cases left
  ·simp[Nat.add_comm]
  ·simp
 have G:(if left=true then [y,x] else [x,y]).length=2:=by cases left<;>rfl
 have a8:(own f).count=λa=>if t.shared=true then 0 else [y.1].count a:=by
  funext a
  unfold own;rw[NB.held,NB.addr];split<;>simp
 have Q:=qk6 (H0:=H0) NB.keep (l:=l) (t:=t) (way:=way) (L':=L') (R':=R') (olds:=if left=true then [f,s] else [s,f]) (A:=A) (B:=if left=true then [y,x] else [x,y]) (C:=C) hJ (by rw[b0];omega) (by rw[b0];omega)
  (λz d=>by
   have:z=f\/z=s:=by
    split at d
    ·rcases List.mem_cons.1 d with h|h
     ·exact .inl h
     ·exact .inr (List.mem_singleton.1 h)
    ·rcases List.mem_cons.1 d with h|h
     ·exact .inr h
     ·exact .inl (List.mem_singleton.1 h)
   rcases this with rfl|rfl
   ·exact NB.nbk
   ·exact NB.sk)
  (by
   split
   ·exact List.pairwise_cons.2 ⟨λz d=>by rw[List.mem_singleton.1 d];exact .inr (by rw[NB.addr];exact λe=>a6 e.symm),List.pairwise_singleton _ _⟩
   ·exact List.pairwise_cons.2 ⟨λz d=>by rw[List.mem_singleton.1 d];exact .inr (by rw[NB.addr];exact a6),List.pairwise_singleton _ _⟩)
  hG (λz d=>I z (List.mem_append_left _ d) (hA z d)) (λz d=>I z (List.mem_append_right _ d) (hC z d)) NB.tk NB.up (λa _ _=>by
   have ho:((if left=true then [f,s] else [s,f]).flatMap own).count (a:Int)=(own f).count (a:Int)+(own s).count (a:Int):=by
    cases left
    ·simp[List.count_append,Nat.add_comm]
    ·simp[List.count_append]
   have d0:(own f).count (a:Int)=if t.shared=true then 0 else [y.1].count (a:Int):=congrFun a8 (a:Int)
   simp only[List.count_append,ho,d0,c9,b8];by_cases W:t.shared=true
   ·rw[if_pos W,if_pos W,if_pos W];omega
   ·rw[if_neg W,if_neg W,if_neg W,J,List.count_append];omega)
  (λz d=>by
   have d1:z=y.1/\f.shared=false\/z∈O:=by
    rcases NB.once with⟨j1,j2,_⟩|⟨j1,_⟩
    ·rw[j1] at d;rcases List.mem_cons.1 d with h|h
     ·exact .inl ⟨h,j2⟩
     ·exact .inr h
    ·rw[j1] at d;exact .inr d
   rcases d1 with⟨h1,h2⟩|h
   ·exact .inl ⟨f,by split<;>simp,h2,by rw[NB.addr];exact h1⟩
   ·rcases hO z h with⟨h1,h2⟩|h
    ·exact .inl ⟨s,by split<;>simp,h1,h2⟩
    ·exact .inr h)
  (by rw[G];omega) (by rw[G];exact hm) (by rw[G];omega) (by rw[G];exact c8) (by rw[U];exact hr) (by rw[U];exact hf) (by rw[U];exact b5) e0 c7 hi
 rw[G,U] at Q;refine⟨m,F,f,e1,rfl,b7,X,?_⟩;exact Q
where
 restH_sub {H0:List Int}:∀(way:List Qs) {a:Int},a∈H0->a∈Zi way H0
  |[],a,h=>h
  |t::way,a,h=>List.mem_append_right _ (List.mem_append_right _ (restH_sub way h))
end
section
variable {D:DM}{S0:Sp}{C0:Ct}{H0:List Int}
def Xz (D:DM)(S0:Sp)(C0:Ct)(O H0:List Int)(P:Pl)(its:List Qb)(k:Nat)(E:Option (Pl × Option Int)):Prop:=
 (∃d r,E=some (d,some r)/\Qac D S0 C0 O H0 P d r its k)\/(∃d,E=some (d,none)/\P.C.free<k)
theorem Xz.since {O O':List Int}{P P':Pl}{its:List Qb}{k k':Nat}{E:Option (Pl × Option Int)}(h:Since D O O' H0 P P' k)(e:Xz D S0 C0 O' H0 P' its k' E):Xz D S0 C0 O H0 P its (k+k') E:=by
 rcases e with⟨d,r,f,m⟩|⟨d,f,m⟩
 ·exact .inl ⟨d,r,f,h.fin m⟩
 ·exact .inr ⟨d,f,by have:=h.free;omega⟩
theorem Xz.more {O:List Int}{P:Pl}{its:List Qb}{k k':Nat}{E:Option (Pl × Option Int)}(e:Xz D S0 C0 O H0 P its k E)(hk:k<=k'):Xz D S0 C0 O H0 P its k' E:=by
 rcases e with⟨f,r,m,d⟩|⟨f,m,d⟩
 ·exact .inl ⟨f,r,m,⟨d.keep,d.tree,d.old,by have:=d.free;omega,d.n⟩⟩
 ·exact .inr ⟨f,m,by omega⟩
theorem q7n {l:Nat}{t:Qs}{way:List Qs}{L' R' its:List Qb}{O:List Int}{P:Pl}{x:O9}{a b:Nat}{B E:List (List Qb)}{n:Int}
  (m:(∃d p u A f,P.Y3 x=some (d,some p)/\Ec D S0 C0 u A H0 d (l+1) t way L' R' a b ⟨n,[],p⟩ B f E/\Since D O u H0 P d 2/\L'++((B++(f++E)).flatten++R')=its)\/(∃d,P.Y3 x=some (d,none)/\P.C.free<2))
  (M:∀{O H:List Int} {P:Pl} {i j:Nat} {e:Nd} {F f G:List (List Qb)},Ec D S0 C0 O H H0 P (l+1) t way L' R' i j e F f G->Xz D S0 C0 O H0 P (L'++((F++(f++G)).flatten++R')) (2*way.length+3) (Y8 D way P t i j e)) :
  Xz D S0 C0 O H0 P its (2*way.length+5) (match P.Y3 x with
    |some (d,some p)=>Y8 D way d t a b ⟨n,[],p⟩
    |some (d,none)=>some (d,none)
    |none=>none):=by
 rcases m with⟨d,p,u,A,f,y,I,J,K⟩|⟨d,y,I⟩
 ·rw[y];have:=Xz.since J (M I);rw[K] at this;exact this.more (by omega)
 ·rw[y];exact .inr ⟨d,rfl,by omega⟩
theorem Po (A B:List Zz):rowOf (A++B)=rowOf A++rowOf B:=by unfold rowOf;simp
theorem q5x (y:Zz):rowOf [y]=y.2:=by unfold rowOf;simp
theorem qaq:∀(way:List Qs) {l:Nat} {s:Qs} {O H:List Int} {P:Pl} {L Rr:List Qb} {i j:Nat} {d:Nd} {Y Mc Z:List (List Qb)},Ec D S0 C0 O H H0 P l s way L Rr i j d Y Mc Z->
  Xz D S0 C0 O H0 P (L++((Y++(Mc++Z)).flatten++Rr)) (2*way.length+3) (Y8 D way P s i j d)
 |[],l,s,O,H,P,L,Rr,i,j,d,Y,Mc,Z,h=>by
  obtain⟨P1,e1,K1,K,hs,b2,u,G⟩:=qc7 h;obtain⟨rfl,rfl⟩:=h.up;have J:=h.rise;have I:=h.fine;have f:=h.few;simp only[List.nil_append,List.append_nil] at J I f;have ht:=quk K1 K hs (H0:=H0) (λ_ _ _=>rfl) J I G (by have:=h.high;omega) f h.most h.one (λy hy=>by
   rcases h.opens y hy with h|⟨t,ht,_⟩
   ·exact h
   ·cases ht)
  have ee:Y8 D [] P s i j d=P1.top s (Xt s i j d):=by
   show (match P.Q8 s i j with|some P1=>P1.top s (Xt s i j d)|none=>none)=_;rw[e1]
  rw[ee,List.nil_append,List.append_nil];exact (Xz.since (k:=0) (k':=3) u ht).more (by simp)
 |t::way,l,s,O,H,P,L,Rr,i,j,d,Y,Mc,Z,h=>by
  obtain⟨P1,e1,K1,K,hs,b2,u,G⟩:=qc7 h;have b5:Qp (l:Int)*2=Qo (l:Int)/\3<=Qp (l:Int):=by unfold Qp Qo;split<;>omega
  obtain⟨U,W,x,L',R',g1,X,g3,g4,g5,g6,g7,g8,g9,a1,a2,a6,b1⟩:=b2;have Q:=q4d K;have R:=q54 K;have hk:=Pe g5 (by rw[g1];show ¬((l+1:Nat):Int)=0;omega);have m:=hk.2.2.2.2.1;have F:=hk.2.2.2.1;rw[g1] at m F;have m:((U++x::W).map Qn).length<=12:=m;have F:2<=((U++x::W).map Qn).length:=F;simp only[List.length_map,List.length_append,List.length_cons] at m F;have hi:=h.high;rw[List.length_cons] at hi;have T:=h.least (by simp);have a8:=h.most;have hO:∀z∈O,(s.shared=false/\z=s.addr)\/(t.shared=false/\z=t.addr)\/∃t'∈way,t'.shared=false/\z=t'.addr:=λz E=>by
   rcases h.opens z E with hx|⟨t',b0,hx⟩
   ·exact .inl hx
   ·rcases List.mem_cons.1 b0 with e|b0
    ·rw[e] at hx;exact .inr (.inl hx)
    ·exact .inr (.inr ⟨t',b0,hx⟩)
  have ih:=λ{O H:List Int} {P:Pl} {i j:Nat} {d:Nd} {Y Mc Z:List (List Qb)} (e:Ec D S0 C0 O H H0 P (l+1) t way L' R' i j d Y Mc Z)=>qaq way e
  have J:=h.rise;have I:=h.fine;have f:=h.few;have a7:=h.H0s;have ee:Y8 D (t::way) P s i j d=match P1.have_ D s (Xt s i j d) t with
    |some (x,P2)=>match P2.Y3 x with
     |some (P3,some ks)=>Y8 D way P3 t x.i x.j ⟨x.N.lvl+1,[],ks⟩
     |some (P3,none)=>some (P3,none)
     |none=>none
    |none=>none:=by
   show (match P.Q8 s i j with|some P1=>_|none=>none)=_;rw[e1];rfl
  generalize hM:Y++(Mc++Z)=M at K R T a8 J I f G;generalize b4:Xt s i j d=b at K Q R K1 ee;rw[ee];unfold Pl.have_;by_cases c1:Qp b.lvl<=b.size
  ·-- enough
   rw[if_pos c1];dsimp only;have p:L++(M.flatten++Rr)=(L'++rowOf U)++(M.flatten++(rowOf W++R')):=by rw[a2,a6]
   rw[p] at J I f ⊢;have b3:=qk6 (H0:=H0) K1 (l:=l) (t:=t) (way:=way) (L':=L') (R':=R') (N:=b) (M:=M) (olds:=[s]) (A:=U) (B:=[x]) (C:=W) K (by rw[Q,R] at c1;exact c1) (by omega) (λz E=>by rw[List.mem_singleton.1 E];exact hs) (List.pairwise_singleton _ _)
    (by rw[g1];rfl) (λz E=>g7 z (List.mem_append_left _ E)) (λz E=>g7 z (List.mem_append_right _ E)) g9 a1 (λa _ _=>by
     have e:(Zi (t::way) H0).count (a:Int)=(own t).count (a:Int)+((if t.shared=true then [] else (Zl t t.next (t.next+1)).named).count (a:Int)+(Zi way H0).count (a:Int)):=by
      show (own t++((if t.shared=true then [] else (Zl t t.next (t.next+1)).named)++Zi way H0)).count _=_;rw[List.count_append,List.count_append]
     rw[q27 g1 X] at e;rw[List.flatMap_cons,List.flatMap_nil,List.append_nil];simp only[List.count_append,e])
    (λz E=>by
     rcases hO z E with h|h
     ·exact .inl ⟨s,List.mem_singleton.2 rfl,h⟩
     ·exact .inr h)
    (by simp) (by simp;omega) (by simp;omega) (λhw=>by have:=g6 hw;simp;omega) J I f G a7 (by omega)
   have:=q7n (x:=⟨b,[s],t.next,t.next+1⟩) (n:=b.lvl+1) (by rw[X];exact b3) ih;rw[<-X] at this;exact (Xz.since (k:=0) u this).more (by rw[List.length_cons];omega)
  ·rw[if_neg c1];rw[Q,R] at c1;by_cases c2:0<t.next
   ·-- the neighbour ahead
    rw[if_pos c2];obtain⟨A,y,rfl⟩:∃A y,U=A++[y]:=⟨U.dropLast,U.getLast (λe=>by rw[X,e] at c2;cases c2),(List.dropLast_concat_getLast _).symm⟩;have p:L++(M.flatten++Rr)=(L'++rowOf A)++((if true=true then y.2++M.flatten else M.flatten++y.2)++(rowOf W++R')):=by
     rw[a2,a6,Po,q5x,if_pos rfl];simp only[List.append_assoc]
    rw[p] at J I f ⊢;simp only[List.length_append,List.length_cons,List.length_nil] at X g6 m F;obtain⟨P2,O2,nb,j1,j2,j3,j4,j5⟩:=qe1 (H0:=H0) true (x:=x) (y:=y) (A:=A) (C:=W) K1 a7 (by omega) (by rw[g1];simp) (by rw[X];rfl) g4 (by omega) (λhw=>by have:=g6 hw;omega) (λz E=>g7 z (by simp[E])) (λz E=>g7 z (by simp[E])) (g7 y (by simp)) (b1 y (by simp)) g9 hs a1 K (by omega) (by omega) hO J I f G;rw[if_pos rfl] at j1 j2;rw[j1,<-j2];simp only[if_true] at j5;simp only[Option.map_some];have en:t.next-1=A.length/\t.next+1=A.length+2:=by omega
    rw[en.1,en.2,j3];have:=q7n (n:=(l:Int)+1) j5 ih;exact (Xz.since (k:=0+0) (u.trans j4) this).more (by rw[List.length_cons];omega)
   ·-- the neighbour behind
    rw[if_neg c2];obtain rfl:U=[]:=List.eq_nil_of_length_eq_zero (by omega);obtain⟨y,C,rfl⟩:∃y C,W=y::C:=by
     match W,F with
     |y::C,_=>exact⟨y,C,rfl⟩
     |[],h=>simp at h
    have p:L++(M.flatten++Rr)=(L'++rowOf [])++((if false=true then y.2++M.flatten else M.flatten++y.2)++(rowOf C++R')):=by
     rw[a2,a6,if_neg (by decide)];have:rowOf (y::C)=y.2++rowOf C:=by rw[show y::C=[y]++C from rfl,Po,q5x]
     rw[this];simp only[List.append_assoc]
    rw[p] at J I f ⊢;simp only[List.length_cons,List.length_nil] at X g6 m F;obtain⟨P2,O2,nb,j1,j2,j3,j4,j5⟩:=qe1 (H0:=H0) false (x:=x) (y:=y) (A:=[]) (C:=C) K1 a7 (by omega) (by rw[g1];simp) (by rw[X];rfl) g4 (by simp;omega) (λhw=>by have:=g6 hw;simp;omega) (λz E=>by cases E) (λz E=>g7 z (by simp[E])) (g7 y (by simp)) (b1 y (by simp)) g9 hs a1 K (by omega) (by omega) hO J I f G;rw[if_neg (by decide)] at j1 j2;rw[j1,<-j2];simp only[Bool.false_eq_true,if_false] at j5;simp only[Option.map_some];have en:t.next=([]:List Zz).length/\t.next+2=([]:List Zz).length+2:=by simp;omega
    rw[en.2,Q];have e3:t.next=([]:List Zz).length:=en.1;rw[e3];have:=q7n (n:=(l:Int)+1) j5 ih;exact (Xz.since (k:=0+0) (u.trans j4) this).more (by rw[List.length_cons];omega)
end
