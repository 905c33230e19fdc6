/- What is laid down in the place of some kids of a node, and what that node is «to» have then -/
import Derived.Test.YthkfkhejjmhomaaGreatDoorEs35
namespace Go.Proofs.YthkfkhejjmhomaaGreatDoor
open Go Go.RowKit Go.Proofs
section
variable {D:DM}{S0:Sp}{C0:Ct}{O H H0:List Int}{P:Pl}
theorem qeg {R:Int->Nd × Int}{l:Nat}{N:Nd}{A B C:List Ja}(h:N=⟨((l+1:Nat):Int),[],(A++(B++C)).map Qp⟩)(d:∀x∈A,good1 R l x)(e:∀x∈C,good1 R l x):Outside R (l+1) N A.length (A.length+B.length) (A.map (·.2)) (C.map (·.2)):=by
 refine⟨⟨A,?_,rfl,d⟩,⟨C,?_,rfl,e⟩,by rw[h],by rw[List.length_map],by rw[h];unfold Nd.size;simp[Nat.add_assoc],by omega⟩
 ·rw[h,q2e];simp
 ·rw[h,q2e];have b:(A++(B++C)).drop (A.length+B.length)=C:=by
   rw[<-List.append_assoc,<-List.length_append,List.drop_left]
  rw[b,List.take_of_length_le];unfold Nd.size;simp only[List.length_nil,List.length_map,List.length_append];omega
theorem qn7 {R R':Int->Nd × Int}{l:Nat}{N:Nd}{M:List (List Qg)}(F:Yt R l N M)(h1:Qr (l:Int)<=M.length)(h2:M.length<=2*Qq (l:Int))(e:Ext R R'){d:List Int}(b:d.length=(pieces N).length)(m:Ux R' (pieces N) d) :
  ∃T:List Ja,List.zipWith Wl (pieces N) d=T.map Qp/\(∀x∈T,good1 R' l x)/\(T.map (·.2)).flatten=M.flatten/\T.map (·.1)=d/\1<=T.length/\T.length<=2:=by
 have G:Qr (l:Int)*2=Qq (l:Int)/\3<=Qr (l:Int):=by unfold Qr Qq;split<;>omega
 rcases q8e F h2 with⟨f,_⟩|⟨I,k2,f,u⟩|⟨I,B,E,rfl,f,u,J,K,Q⟩
 ·rw[f] at h1;simp at h1;omega
 ·rw[f] at b m ⊢;match d,b with
  |[a],_=>
   obtain⟨j1,j2⟩:=m (N.cut 0 M.length,a) (List.mem_singleton.2 rfl);obtain⟨y,A⟩:=q3p u h1 e j1 j2;refine⟨[(a,M.flatten)],?_,λx p=>?_,by simp,rfl,by simp,by simp⟩
   ·show [Wl _ a]=_;rw[A];rfl
   ·rw[List.mem_singleton.1 p];exact y
  |[],b=>cases b
  |_::_::_,b=>cases b
 ·rw[f] at b m ⊢;match d,b with
  |[a1,a2],_=>
   obtain⟨U,X⟩:=m (_,a1) (List.mem_cons_self ..);obtain⟨W,Y⟩:=m (_,a2) (List.mem_cons_of_mem _ (List.mem_singleton.2 rfl));obtain⟨y,A⟩:=q3p u K e U X;obtain⟨Z,u2⟩:=q3p J Q e W Y;refine⟨[(a1,B.flatten),(a2,E.flatten)],?_,λx p=>?_,by simp,rfl,by simp,by simp⟩
   ·show [Wl _ a1,Wl _ a2]=_;rw[A,u2];rfl
   ·rcases List.mem_cons.1 p with rfl|p
    ·exact y
    ·rw[List.mem_singleton.1 p];exact Z
  |[],b=>cases b
  |[_],b=>cases b
  |_::_::_::_,b=>cases b
structure Since (D:DM)(O O' H0:List Int)(P P':Pl)(k:Nat):Prop where
 old:∀l a t,a∈H0->Qi (P.hide D O) l a t->Qi (P'.hide D O') l a t
 free:P.C.free<=P'.C.free+k
 n:P'.C.n=P.C.n
theorem Since.trans {O' O'':List Int}{P' P'':Pl}{k k':Nat}(h:Since D O O' H0 P P' k)(h2:Since D O' O'' H0 P' P'' k'):Since D O O'' H0 P P'' (k+k'):=
 ⟨λl a t b d=>h2.old l a t b (h.old l a t b d),by have:=h.free;have:=h2.free;omega,h2.n.trans h.n⟩
theorem Since.fin {O':List Int}{P' P'':Pl}{k k':Nat}{r:Int}{its:List Qg}(h:Since D O O' H0 P P' k)(f:Qan D S0 C0 O' H0 P' P'' r its k'):Qan D S0 C0 O H0 P P'' r its (k+k'):=
 ⟨f.keep,f.tree,λl a t b d=>f.old l a t b (h.old l a t b d),by have:=h.free;have:=f.free;omega,f.n.trans h.n⟩
theorem q5r {b:List Int}{P':Pl}{l:Int}{k:Nat}(m:Move l D O b P P' k)(H0:List Int):Since D O b H0 P P' k:=⟨λ_ _ _ _ d=>q13 m.ext d,m.free,m.n⟩
def Wh (s:Qs)(l i j:Nat):List Int:=if s.shared=true then [] else if l=0 then (s.N.cut i j).named else []
structure Ea (D:DM)(S0:Sp)(C0:Ct)(O H H0:List Int)(P:Pl)(l:Nat)(s:Qs)(way:List Qs)(L Rr:List Qg)(i j:Nat)(come:Nd)(ML Mc MR:List (List Qg)):Prop where
 keep:Keep D S0 C0 O H P
 spot:Zo P D O (l:Int) s
 up:Xy P D O l s way L Rr
 out:Outside (P.hide D O) l s.N i j ML MR
 Sz:Yt (P.hide D O) l come Mc
 gone:(Wh s l i j).length<=1/\∀c∈Wh s l i j,P.hide D O c=(Yh,0)
 held:∀a:Nat,0<a->a<P.C.n->H.count (a:Int)=(own s++((if s.shared=true then [] else (Zq s i j).named)++(Wh s l i j++(come.named++Zn way H0)))).count (a:Int)
 dat:∀x∈(ML++(Mc++MR)).flatten,Dat (P.hide D O) x
 opens:∀y∈O,(s.shared=false/\y=s.addr)\/∃t∈way,t.shared=false/\y=t.addr
 rise:Qk (L++((ML++(Mc++MR)).flatten++Rr))
 fine:∀x∈L++((ML++(Mc++MR)).flatten++Rr),Zr x
 few:(L++((ML++(Mc++MR)).flatten++Rr)).length<=1000
 H0s:H0.length<=10000
 most:(ML++(Mc++MR)).length<=Qq (l:Int)+1
 least:way≠[]->Qr (l:Int)<=(ML++(Mc++MR)).length+1
 one:0<l->1<=(ML++(Mc++MR)).length
 high:l+way.length<=7
theorem qb0:∀{way:List Qs} {l:Nat} {s:Qs} {L Rr:List Qg},Xy P D O l s way L Rr->(Zn way H0).length<=H0.length+14*way.length
 |[],l,s,L,Rr,_=>by show H0.length<=_;omega
 |t::way,l,s,L,Rr,h=>by
  obtain⟨f,m,x,B,E,d,y,F,G,A,I,J,K,M,e,p,u⟩:=h;have T:=qb0 e;have b:=(Fe A (by rw[d];show ¬((l+1:Nat):Int)=0;omega)).2.2.2.2.1;rw[d] at b;have b:((f++x::m).map Qp).length<=12:=b;simp only[List.length_map,List.length_append,List.length_cons] at b;have Q:(own t).length<=1:=by unfold own;split<;>simp
  have R:(if t.shared=true then [] else (Zq t t.next (t.next+1)).named).length<=12:=by
   split
   ·simp
   ·rw[q2f d y,List.length_append,List.length_map,List.length_map];omega
  show (own t++((if t.shared=true then [] else (Zq t t.next (t.next+1)).named)++Zn way H0)).length<=_;rw[List.length_append,List.length_append,List.length_cons];omega
theorem qge (s:Qs)(i j:Nat)(b:Nd)(a:Int):(Xr s i j b).named.count a=(Zq s i j).named.count a+b.named.count a:=by
 unfold Xr Zq;rw[q5m,q5m];simp only[List.map_cons,List.map_nil,List.sum_cons,List.sum_nil];omega
theorem qn8 {O:List Int}{c:Int}(h:c∉O):less1 (c::O) c=O:=by
 unfold less1;rw[List.filter_cons_of_neg (by simp)];exact List.filter_eq_self.2 λx b=>by
  have:x≠c:=λe=>h (e▸b)
  simpa using this
theorem qkw {R:Int->Nd × Int}{l:Nat}{a c:Int}{t:List Qg}(h:Qi R l a t)(hd:R c=(Yh,0)):a≠c:=λe=>by
 have h1:=(Ce h).2.1;rw[e,hd] at h1;have h2:(-1:Int)=(l:Int):=h1;omega
theorem qqv (K:Keep D S0 C0 O H P){s:Qs}{way:List Qs}{L Rr:List Qg}(W:Zo P D O ((0:Nat):Int) s)(p:Xy P D O 0 s way L Rr)(y:s.shared=false){c:Int}(hd:P.hide D O c=(Yh,0)){X:List Int}
  (G:∀a:Nat,0<a->a<P.C.n->H.count (a:Int)=(c::X).count (a:Int)) (Z:∀a∈Zn way H0,a∈X) :
  P.C.Zh c=0/\Keep D S0 C0 O X ⟨P.S,P.C.Qj c,P.L⟩/\Zo ⟨P.S,P.C.Qj c,P.L⟩ D O ((0:Nat):Int) s/\Xy ⟨P.S,P.C.Qj c,P.L⟩ D O 0 s way L Rr/\Since D O O H0 P ⟨P.S,P.C.Qj c,P.L⟩ 0/\
   ∀x,Dat (P.hide D O) x->(∀d,Y4 x=some d->d∈X)->Dat (Pl.hide ⟨P.S,P.C.Qj c,P.L⟩ D O) x:=by
 obtain⟨R,n,rfl,hn,h0⟩:=Iy (P:=P) (D:=D) (O:=O) (x:=c) (by rw[hd]);have U:P.Qd D (n:Int)≠0:=by
  rw[Et R] at hd;exact (q7q K.Ze hd).2
 have a0:(P.Qa D (n:Int)).lvl=0:=by rw[q75 U];rfl
 obtain⟨c0,_⟩:=K.first h0
 have f:(n:Int)∈H:=List.count_pos_iff.1 (by rw[G n c0 hn,List.count_cons];simp);obtain⟨m1,m2,m3,m4⟩:=W.mine y;have m:s.addr≠(n:Int):=λe=>U (by rw[<-e];exact m4)
 have M:=q9q p m1;have other:∀x:Int,x≠(n:Int)->(P.C.Qj (n:Int)).get x=P.C.get x/\Pl.store ⟨P.S,P.C.Qj (n:Int),P.L⟩ D x=P.store D x:=λx m=>by
  rw[(q2q h0).2];exact q5e m
 have A:Zo ⟨P.S,P.C.Qj (n:Int),P.L⟩ D O ((0:Nat):Int) s:=W.other (s:=⟨Zk,(n:Int),0,false,false⟩) (.inr m) (λx E=>other x E) λ_ _=>Iff.rfl
 by_cases h1:P.C.get (n:Int)=1
 ·have I:=K.open_ h1 f R;rw[q3w hd,List.nil_append] at I;obtain⟨J,F,T⟩:=I.drop (H0:=X) (List.mem_cons_self ..) G;have b:=T 0 (by omega);rw[qn8 R] at F b;have u:(n:Int)∉X:=λhm=>by
   have h2:=(K.once h1 f).1;rw[G n c0 hn,List.count_cons] at h2;have:=List.count_pos_iff.2 hm;simp at h2;omega
  have B:=p.open_ K h1 f M y (H0:=H0) (λhm=>u (Z _ hm));refine⟨J,F,A,B.ext I b.ext b.above (Nat.le_refl _),⟨λl a t _ Y=>q13 b.ext (q3x K h1 f l a t (qkw Y hd) Y),by have:=b.free;omega,b.n⟩,λx E Q=>(qlk E λe=>u (Q _ e)).ext b.ext⟩
 ·have h2:2<=P.C.get (n:Int):=by
   have:=K.nonneg (n:Int);omega
  obtain⟨J,F,T⟩:=K.Qj (H0:=X) h2 G;have b:=T 0 (by omega);exact⟨J,F,A,p.ext K b.ext b.above (Nat.le_refl _),q5r b H0,λx E _=>E.ext b.ext⟩
theorem qcu {l:Nat}{s:Qs}{way:List Qs}{L Rr:List Qg}{i j:Nat}{b:Nd}{J M K:List (List Qg)}(h:Ea D S0 C0 O H H0 P l s way L Rr i j b J M K) :
  ∃u,P.Qv s i j=some u/\Keep D S0 C0 O (own s++((Xr s i j b).named++Zn way H0)) u/\Yt (u.hide D O) l (Xr s i j b) (J++(M++K))/\Zo u D O (l:Int) s/\Xy u D O l s way L Rr/\Since D O O H0 P u 0/\∀x∈(J++(M++K)).flatten,Dat (u.hide D O) x:=by
 have F:∀x∈(J++K).flatten,Dat (P.hide D O) x:=λx p=>h.dat x (by
  simp only[List.flatten_append,List.mem_append] at p ⊢;rcases p with h|h
  ·exact .inl h
  ·exact .inr (.inr h))
 have W:∀x∈M.flatten,Dat (P.hide D O) x:=λx p=>h.dat x (by
  simp only[List.flatten_append,List.mem_append];exact .inr (.inl p))
 have a2:Qq (l:Int)<=12:=by unfold Qq;split<;>omega
 have a0:=h.most;simp only[List.length_append] at a0;have A:=h.keep.perm λa h1 h2=>(h.held a h1 h2).symm
 have n1:=(q9k (qkj h.out) F).2;have n2:=(q9k h.Sz W).2;have n3:=qb0 (H0:=H0) h.up;have n4:(own s).length<=1:=by unfold own;split<;>simp
 have n5:=h.high;have n6:=h.H0s;have R:=h.gone.1;rw[List.length_append] at n1;by_cases y:Wh s l i j=[]
 ·rw[y,List.nil_append] at A;obtain⟨u,E,T,B⟩:=q92 A h.out F (λh1 h2=>by
   unfold Wh at y;rw[h1,if_neg (by decide),if_pos h2] at y;exact y) (by omega) (by
   have R:(if s.shared=true then [] else (Zq s i j).named).length<=(Zq s i j).named.length:=by
    split
    ·exact Nat.zero_le _
    ·exact Nat.le_refl _
   rw[List.length_append,List.length_append,List.length_append];omega)
  refine⟨u,E,T.perm λa _ _=>?_,qq0 (qq5 h.out h.Sz) (B 0).ext,h.spot.above A (B ((l:Int)-1)).above (by omega),h.up.ext A (B (l:Int)).ext (B (l:Int)).above (Nat.le_refl _),q5r (B 0) H0,λx p=>(h.dat x p).ext (B 0).ext⟩;simp only[List.count_append,qge];by_cases Q:s.shared=true
  ·rw[if_pos Q,if_pos Q];simp only[List.count_nil];omega
  ·rw[if_neg Q,if_neg Q];simp only[List.count_nil];omega
 ·obtain⟨c,f⟩:∃c,Wh s l i j=[c]:=by
   match Wh s l i j,y,R with
   |[c],_,_=>exact⟨c,rfl⟩
   |[],y,_=>exact absurd rfl y
   |_::_::_,_,R=>simp at R
  have m:s.shared=false:=by
   cases e:s.shared with
   |false=>rfl
   |true=>unfold Wh at f;rw[e,if_pos rfl] at f;cases f
  have hl:l=0:=by
   refine Classical.byContradiction λe=>?_
   unfold Wh at f;rw[m,if_neg (by decide),if_neg e] at f
   cases f
  subst hl;have hcut:(s.N.cut i j).named=[c]:=by
   unfold Wh at f;rw[m,if_neg (by decide),if_pos rfl] at f;exact f
  have hd:=h.gone.2 c (by rw[f];exact List.mem_singleton.2 rfl);rw[f,m,if_neg (by decide)] at A;obtain⟨e0,T,Z,a1,I,G⟩:=qqv (H0:=H0) (X:=own s++((Xr s i j b).named++Zn way H0)) A h.spot h.up m hd (λa _ _=>by
   simp only[List.count_append,List.count_cons,List.count_nil,qge];omega) (λa ha=>List.mem_append_right _ (List.mem_append_right _ ha))
  have hB:=qq5 h.out h.Sz;refine⟨_,?_,T,?_,Z,a1,I,λx p=>G x (h.dat x p) λd Y=>?_⟩
  ·unfold Pl.Qv;rw[m,if_neg (by decide),h.out.lvl,if_neg (by decide),hcut];show (if P.C.Zh c=0 then _ else none)=_;rw[if_pos e0];rfl
  ·obtain⟨its,E,U⟩:=hB;exact⟨its,E,U⟩
  ·obtain⟨its,E,U⟩:=hB;rw[U,Po] at p;refine List.mem_append_right _ (List.mem_append_left _ ?_);rw[E];exact List.mem_append_right _ (List.mem_filterMap.2 ⟨x,p,Y⟩)
theorem qkx (K:Keep D S0 C0 O H P){l:Nat}{t:Qs}{way:List Qs}{L' R':List Qg}{N:Nd}{M:List (List Qg)}{olds:List Qs}{A B C:List Ja}
  (hb:Yt (P.hide D O) l N M) (h1:Qr (l:Int)<=M.length) (h2:M.length<=2*Qq (l:Int)) (hs:∀s∈olds,Zo P D O (l:Int) s) (hd:olds.Pairwise λs o=>o.held=true\/o.addr≠s.addr)
  (hG:t.N=⟨((l+1:Nat):Int),[],(A++(B++C)).map Qp⟩) (hA:∀x∈A,good1 (P.hide D O) l x) (hC:∀x∈C,good1 (P.hide D O) l x) (ht:Zo P D O ((l+1:Nat):Int) t) (a8:Xy P D O (l+1) t way L' R')
  (hH:∀a:Nat,0<a->a<P.C.n->H.count (a:Int)=(olds.flatMap own++(N.named++(own t++((if t.shared=true then [] else A.map (·.1)++C.map (·.1))++Zn way H0)))).count (a:Int))
  (hO:∀y∈O,(∃s∈olds,s.shared=false/\y=s.addr)\/(t.shared=false/\y=t.addr)\/∃t'∈way,t'.shared=false/\y=t'.addr)
  (hB:1<=B.length/\B.length<=2) (hm:A.length+B.length+C.length<=12) (b0:2<=A.length+B.length+C.length) (a5:way≠[]->6<=A.length+B.length+C.length)
  (hr:Qk ((L'++rowOf A)++(M.flatten++(rowOf C++R')))) (hf:∀x∈(L'++rowOf A)++(M.flatten++(rowOf C++R')),Zr x) (a0:((L'++rowOf A)++(M.flatten++(rowOf C++R'))).length<=1000) (d:∀x∈M.flatten,Dat (P.hide D O) x) (a2:H0.length<=10000) (hi:l+1+way.length<=7) :
  (∃f ks F H3 Mc,P.Y1 ⟨N,olds,A.length,A.length+B.length⟩=some (f,some ks)/\Ea D S0 C0 F H3 H0 f (l+1) t way L' R' A.length (A.length+B.length) ⟨N.lvl+1,[],ks⟩ (A.map (·.2)) Mc (C.map (·.2))/\Since D O F H0 P f 2/\
   L'++((A.map (·.2)++(Mc++C.map (·.2))).flatten++R')=(L'++rowOf A)++(M.flatten++(rowOf C++R')))\/(∃f,P.Y1 ⟨N,olds,A.length,A.length+B.length⟩=some (f,none)/\P.C.free<2):=by
 have a9:Qr (l:Int)*2=Qq (l:Int)/\3<=Qr (l:Int):=by unfold Qr Qq;split<;>omega
 have I:∀x∈M.flatten,Zr x:=λx b=>hf x (List.mem_append_right _ (List.mem_append_left _ b))
 have R:Qk M.flatten:=(q12 (q12 hr).2).1;have a6:=q96 hb h2;have a1:=q8e hb h2;have W:∀p∈pieces N,Fits (P.hide D O) p:=λp Q=>by
  rcases a1 with⟨_,e⟩|⟨k1,k2,e,k3⟩|⟨k1,M1,M2,rfl,e,k3,k4,k5,k6⟩
  ·rw[e] at Q;cases Q
  ·rw[e,List.mem_singleton] at Q;rw[Q];exact k3.fits (by omega) (λ_=>by omega) R I d
  ·rw[List.flatten_append] at R I d;rw[e] at Q;rcases List.mem_cons.1 Q with rfl|Q
   ·exact k3.fits (by omega) (λ_=>by omega) (q12 R).1 (λx b=>I x (List.mem_append_left _ b)) λx b=>d x (List.mem_append_left _ b)
   ·rw[List.mem_singleton] at Q;rw[Q];exact k4.fits (by omega) (λ_=>by omega) (q12 R).2 (λx b=>I x (List.mem_append_right _ b)) λx b=>d x (List.mem_append_right _ b)
 have Z:(pieces N).length<=2:=by
  rcases a1 with⟨_,e⟩|⟨k1,k2,e,k3⟩|⟨k1,M1,M2,_,e,k3,k4,k5,k6⟩<;>rw[e]<;>simp
 rcases qkt (l:=(l:Int)) K ⟨N,olds,A.length,A.length+B.length⟩ (own t++((if t.shared=true then [] else A.map (·.1)++C.map (·.1))++Zn way H0)) hs hd W (λa h1 h2=>by
   rw[hH a h1 h2,a6]) with⟨f,F,az,g1,U,K3,E,gO,gl⟩|⟨f,g1,U⟩
 ·left
  have g1:az.length=(pieces N).length:=g1;have gl:Ux (f.hide D F) (pieces N) az:=gl;have E:Move (l:Int) D O F P f (pieces N).length:=E;obtain⟨T,t1,t2,t3,t4,t5,t6⟩:=qn7 hb h1 h2 E.ext g1 gl;have U:P.Y1 ⟨N,olds,A.length,A.length+B.length⟩=some (f,some (List.zipWith Wl (pieces N) az)):=U;rw[t1] at U;have a3:=q4y hb;have eN:(⟨N.lvl+1,[],T.map Qp⟩:Nd)=⟨((l+1:Nat):Int),[],T.map Qp⟩:=by rw[a3];rfl
  have m:L'++((A.map (·.2)++(T.map (·.2)++C.map (·.2))).flatten++R')=(L'++rowOf A)++(M.flatten++(rowOf C++R')):=by
   rw[List.flatten_append,List.flatten_append,t3];unfold rowOf;simp only[List.append_assoc]
  have a4:Move (l:Int) D O F P f 2:=E.more Z;have X:Wh t (l+1) A.length (A.length+B.length)=[]:=by
   unfold Wh;split
   ·rfl
   ·rfl
  have Y:Qq ((l+1:Nat):Int)=12:=if_neg (by omega);have J:Qr ((l+1:Nat):Int)=6:=if_neg (by omega);refine⟨f,_,F,az++(own t++((if t.shared=true then [] else A.map (·.1)++C.map (·.1))++Zn way H0)),T.map (·.2),U,?_,q5r a4 H0,m⟩;rw[eN];refine⟨K3,ht.above K E.above (by omega),a8.ext K E.ext E.above (by omega),qeg hG (λx b=>q2b (hA x b) E.ext) (λx b=>q2b (hC x b) E.ext),⟨T,rfl,rfl,t2⟩,⟨by rw[X];exact Nat.zero_le _,λc hc=>by rw[X] at hc;cases hc⟩,λa _ _=>?_,λx b=>?_,λy hy=>?_,by rw[m];exact hr,by rw[m];exact hf,by rw[m];exact a0,a2,?_,λhw=>?_,λ_=>?_,hi⟩
  ·have e1:(Zq t A.length (A.length+B.length)).named=A.map (·.1)++C.map (·.1):=by
    rw[q8d hG,q17,List.take_left,<-List.append_assoc,<-List.length_append,List.drop_left,List.map_append]
   rw[e1,q17,t4,X];simp only[List.count_append];split<;>simp only[List.count_append,List.count_nil]<;>omega
  ·obtain⟨r,a7,b⟩:=List.mem_flatten.1 b;have u:∀G:List Ja,(∀x∈G,good1 (f.hide D F) l x)->r∈G.map (·.2)->Dat (f.hide D F) x:=λG hG hm=>by
    obtain⟨y,hy,rfl⟩:=List.mem_map.1 hm;exact K3.dat l _ _ (hG y hy).1 x b
   rcases List.mem_append.1 a7 with h|h
   ·exact u A (λx b=>q2b (hA x b) E.ext) h
   ·rcases List.mem_append.1 h with h|h
    ·exact u T t2 h
    ·exact u C (λx b=>q2b (hC x b) E.ext) h
  ·obtain⟨j1,j2⟩:=gO y hy;rcases hO y j1 with⟨s,k1,k2,k3⟩|h|h
   ·exact absurd k3 (j2 s k1 k2)
   ·exact .inl h
   ·exact .inr h
  ·rw[Y];simp only[List.length_append,List.length_map];omega
  ·rw[J];have:=a5 hw;simp only[List.length_append,List.length_map];omega
  ·simp only[List.length_append,List.length_map];omega
 ·right
  have U:P.C.free<(pieces N).length:=U;exact⟨f,g1,by omega⟩
end
section
variable {D:DM}{S0:Sp}{C0:Ct}{O H H0:List Int}{P:Pl}
theorem qqw {R:Int->Nd × Int}{l:Nat}{N:Nd}{M:List (List Qg)}(d:Yt R l N M){y:Ja}(m:Qi R l y.1 y.2):y.1∉N.kids.map (·.a):=by
 cases l with
 |zero=>
  obtain⟨its,rfl,_⟩:=d;simp
 |succ l=>
  obtain⟨G,rfl,_,f⟩:=d;intro h;obtain⟨z,p,e⟩:=List.mem_map.1 h;obtain⟨g,b,rfl⟩:=List.mem_map.1 p;have h1:=(Ce (f g b).1).2.1;have h2:=(Ce m).2.1;have e:g.1=y.1:=e;rw[e] at h1;omega
theorem q52 {a:Int}{X:List Int}(h:X.count a=0):a∉X:=λhm=>by
 have:=List.count_pos_iff.2 hm;omega
theorem qeh (left:Bool){l:Nat}{s t:Qs}{way:List Qs}{L' R':List Qg}{b:Nd}{M:List (List Qg)}{A C:List Ja}{x y:Ja}(K:Keep D S0 C0 O (own s++(b.named++Zn (t::way) H0)) P)(b6:H0.length<=10000)(hi:l+1+way.length<=7)
  (hG:t.N=⟨((l+1:Nat):Int),[],(A++((if left=true then [y,x] else [x,y])++C)).map Qp⟩) (hn:t.next=A.length+if left=true then 1 else 0) (d4:s.held=t.shared) (hm:A.length+2+C.length<=12) (b7:way≠[]->6<=A.length+2+C.length)
  (hA:∀z∈A,good1 (P.hide D O) l z) (hC:∀z∈C,good1 (P.hide D O) l z) (hy:good1 (P.hide D O) l y) (a2:y.1≠s.addr) (ht:Zo P D O ((l+1:Nat):Int) t) (hs:Zo P D O (l:Int) s) (b4:Xy P D O (l+1) t way L' R')
  (hb:Yt (P.hide D O) l b M) (c8:Qr (l:Int)<=M.length+1) (c9:M.length<Qr (l:Int))
  (hO:∀z∈O,(s.shared=false/\z=s.addr)\/(t.shared=false/\z=t.addr)\/∃t'∈way,t'.shared=false/\z=t'.addr)
  (hr:Qk ((L'++rowOf A)++((if left=true then y.2++M.flatten else M.flatten++y.2)++(rowOf C++R')))) (hf:∀z∈(L'++rowOf A)++((if left=true then y.2++M.flatten else M.flatten++y.2)++(rowOf C++R')),Zr z) (b0:((L'++rowOf A)++((if left=true then y.2++M.flatten else M.flatten++y.2)++(rowOf C++R'))).length<=1000) (a9:∀z∈M.flatten,Dat (P.hide D O) z) :
  ∃m F f,P.near D t (if left=true then t.next-1 else t.next+1)=some m/\f=P.Jf D t (if left=true then t.next-1 else t.next+1)/\f.N.lvl=(l:Int)/\Since D O F H0 P m 0/\
   ((∃P3 ks O3 H3 Mc,m.Y1 ⟨Zz (l:Int) (if left=true then [f.N,b] else [b,f.N]),(if left=true then [f,s] else [s,f]),A.length,A.length+2⟩=some (P3,some ks)/\Ea D S0 C0 O3 H3 H0 P3 (l+1) t way L' R' A.length (A.length+2) ⟨(l:Int)+1,[],ks⟩ (A.map (·.2)) Mc (C.map (·.2))/\Since D F O3 H0 m P3 2/\
   L'++((A.map (·.2)++(Mc++C.map (·.2))).flatten++R')=(L'++rowOf A)++((if left=true then y.2++M.flatten else M.flatten++y.2)++(rowOf C++R')))\/(∃P3,m.Y1 ⟨Zz (l:Int) (if left=true then [f.N,b] else [b,f.N]),(if left=true then [f,s] else [s,f]),A.length,A.length+2⟩=some (P3,none)/\m.C.free<2)):=by
 have d2:Qr (l:Int)*2=Qq (l:Int)/\3<=Qr (l:Int)/\Qq (l:Int)<=12:=by unfold Qr Qq;split<;>omega
 have d1:∀z∈y.2,Zr z:=λz d=>hf z (by
  refine List.mem_append_right _ (List.mem_append_left _ ?_);split
  ·exact List.mem_append_left _ d
  ·exact List.mem_append_right _ d)
 have d0:∀z∈M.flatten,Zr z:=λz d=>hf z (by
  refine List.mem_append_right _ (List.mem_append_left _ ?_);split
  ·exact List.mem_append_right _ d
  ·exact List.mem_append_left _ d)
 have hq:(A++((if left=true then [y,x] else [x,y])++C))[if left=true then t.next-1 else t.next+1]?=some y:=by
  rw[hn]
  cases left
  ·simp
  ·simp
 have J:∀a,(Zq t t.next (t.next+1)).named.count a=(A.map (·.1)).count a + [y.1].count a+(C.map (·.1)).count a:=λa=>by
  cases left
  ·have e:=q2f (l:=l) (GL:=A) (GR:=y::C) (x:=x) (by rw[hG];simp) (by rw[hn];rfl);rw[e];simp only[List.map_cons,List.count_append,List.count_cons,List.count_nil];omega
  ·have e:=q2f (l:=l) (GL:=A++[y]) (GR:=C) (x:=x) (by rw[hG];simp) (by rw[hn];simp);rw[e];simp only[List.map_append,List.map_cons,List.map_nil,List.count_append,List.count_cons,List.count_nil]
 have b3:∀a,(Zn (t::way) H0).count a=(own t).count a+((if t.shared=true then [] else (Zq t t.next (t.next+1)).named).count a+(Zn way H0).count a):=λa=>by
  show (own t++((if t.shared=true then [] else (Zq t t.next (t.next+1)).named)++Zn way H0)).count a=_;rw[List.count_append,List.count_append]
 have Y:t.shared=false->∀a,(own s++(b.named++Zn (t::way) H0)).count a=(own s).count a+(b.named.count a+((own t).count a+(((A.map (·.1)).count a + [y.1].count a+(C.map (·.1)).count a)+(Zn way H0).count a))):=λh a=>by
  rw[List.count_append,List.count_append,b3,h,if_neg (by decide),J]
 have a0:([y.1]:List Int).count y.1=1:=by simp
 have Z:t.shared=false->y.1∈own s++(b.named++Zn (t::way) H0):=λh=>by
  refine List.count_pos_iff.1 ?_;rw[Y h,a0];omega
 have p:t.shared=false->(own s++(b.named++Zn (t::way) H0)).count y.1=1->y.1∉A.map (·.1)/\y.1∉C.map (·.1)/\y.1∉Zn way H0/\y.1∉own t:=λh h1=>by
  rw[Y h,a0] at h1;exact⟨q52 (by omega),q52 (by omega),q52 (by omega),q52 (by omega)⟩
 obtain⟨_,n,en,_,c7⟩:=Iy (Ce hy.1).2.2;have a3:t.shared=false->P.C.get y.1=1->(own s++(b.named++Zn (t::way) H0)).count y.1=1:=λh h1=>by
  have:=Z h;rw[en] at this h1 ⊢;exact (K.once h1 this).1
 have n3:=qb0 (H0:=H0) b4;have n4:(own s).length<=1:=by unfold own;split<;>simp
 have n5:=(q9k hb a9).2;have n6:(own t).length<=1:=by unfold own;split<;>simp
 have n7:(Zq t t.next (t.next+1)).named.length<=12:=by
  cases left
  ·have e:=q2f (l:=l) (GL:=A) (GR:=y::C) (x:=x) (by rw[hG];simp) (by rw[hn];rfl);rw[e];simp;omega
  ·have e:=q2f (l:=l) (GL:=A++[y]) (GR:=C) (x:=x) (by rw[hG];simp) (by rw[hn];simp);rw[e];simp;omega
 have b1:(own s++(b.named++Zn (t::way) H0)).length<=20000:=by
  have e:(Zn (t::way) H0).length<=1+(12+(Zn way H0).length):=by
   show (own t++((if t.shared=true then [] else (Zq t t.next (t.next+1)).named)++Zn way H0)).length<=_;rw[List.length_append,List.length_append];split
   ·rw[List.length_nil];omega
   ·omega
  rw[List.length_append,List.length_append];omega
 obtain⟨m,F,E,e1,NB,a1,u,a6,a7,b2⟩:=qqu K (H0:=H0) hG hq hy ht hs a2 b4 b1 (λh1 h2=>by
  obtain⟨_,_,j3,j4⟩:=p h1 (a3 h1 h2);refine⟨Z h1,j3,λe=>j4 ?_⟩;unfold own;rw[(ht.mine h1).1,if_neg (by decide),e];exact List.mem_singleton.2 rfl)
 generalize d3:P.Jf D t (if left=true then t.next-1 else t.next+1)=f at e1 NB a1 u a6 a7 b2;have I:∀z∈A++C,good1 (P.hide D O) l z->good1 (m.hide D F) l z:=λz d hg=>by
  rcases NB.once with⟨j1,_,j3,j4⟩|⟨_,j2⟩
  ·obtain⟨i1,i2,_,_⟩:=p j4 j3;refine NB.near.good (λe=>?_) hg;rcases List.mem_append.1 d with h|h
   ·exact i1 (e▸List.mem_map_of_mem h)
   ·exact i2 (e▸List.mem_map_of_mem h)
  ·exact q2b hg j2
 have a8:Yt (m.hide D F) l b M:=NB.near.Fb (qqw hb hy.1) hb;have X:Since D O F H0 P m 0:=⟨λl a its ha W=>by
  rcases NB.once with⟨j1,_,j3,j4⟩|⟨_,j2⟩
  ·obtain⟨_,_,i3,_⟩:=p j4 j3;exact NB.near.tree l a its (λe=>i3 (e▸restH_sub way ha)) W
  ·exact q13 j2 W,by have:=NB.free;omega,NB.n⟩
 have b5:0<=(P.hide D O y.1).1.lvl:=by rw[(Ce hy.1).2.1];exact Int.natCast_nonneg l
 have T:∀z∈(E++M).flatten,Dat (m.hide D F) z:=λz d=>by
  rw[List.flatten_append,u] at d;rcases List.mem_append.1 d with h|h
  ·exact NB.near.dat b5 (K.dat l _ _ hy.1 z h)
  ·exact NB.near.dat b5 (a9 z h)
 have hJ:Yt (m.hide D F) l (Zz (l:Int) (if left=true then [f.N,b] else [b,f.N])) (if left=true then E++M else M++E):=by
  cases left
  ·have:=q76 (R:=m.hide D F) (l:=l) [(b,M),(f.N,E)] (λz d=>by
    rcases List.mem_cons.1 d with rfl|d
    ·exact a8
    ·rw[List.mem_singleton.1 d];exact a1)
   simpa using this
  ·have:=q76 (R:=m.hide D F) (l:=l) [(f.N,E),(b,M)] (λz d=>by
    rcases List.mem_cons.1 d with rfl|d
    ·exact a1
    ·rw[List.mem_singleton.1 d];exact a8)
   simpa using this
 have e0:∀z∈(if left=true then E++M else M++E).flatten,Dat (m.hide D F) z:=λz d=>T z (by
  rw[List.flatten_append];split at d
  ·rw[List.flatten_append] at d;exact d
  ·rw[List.flatten_append] at d;rcases List.mem_append.1 d with h|h
   ·exact List.mem_append_right _ h
   ·exact List.mem_append_left _ h)
 have b8:∀a,(Zz (l:Int) (if left=true then [f.N,b] else [b,f.N])).named.count a=f.N.named.count a+b.named.count a:=λa=>by
  rw[q5m]
  cases left
  ·simp only[Bool.false_eq_true,if_false,List.map_cons,List.map_nil,List.sum_cons,List.sum_nil];omega
  ·simp only[if_true,List.map_cons,List.map_nil,List.sum_cons,List.sum_nil];omega
 have U:(if left=true then E++M else M++E).flatten=if left=true then y.2++M.flatten else M.flatten++y.2:=by
  cases left
  ·simp[u]
  ·simp[u]
 have a5:(if left=true then E++M else M++E).length=E.length+M.length:=by
  cases left
  ·simp[Nat.add_comm]
  ·simp
 have G:(if left=true then [y,x] else [x,y]).length=2:=by cases left<;>rfl
 have a4:(own f).count=λa=>if t.shared=true then 0 else [y.1].count a:=by
  funext a
  unfold own;rw[NB.held,NB.addr];split<;>simp
 have Q:=qkx (H0:=H0) NB.keep (l:=l) (t:=t) (way:=way) (L':=L') (R':=R') (olds:=if left=true then [f,s] else [s,f]) (A:=A) (B:=if left=true then [y,x] else [x,y]) (C:=C) hJ (by rw[a5];omega) (by rw[a5];omega)
  (λz d=>by
   have:z=f\/z=s:=by
    split at d
    ·rcases List.mem_cons.1 d with h|h
     ·exact .inl h
     ·exact .inr (List.mem_singleton.1 h)
    ·rcases List.mem_cons.1 d with h|h
     ·exact .inr h
     ·exact .inl (List.mem_singleton.1 h)
   rcases this with rfl|rfl
   ·exact NB.nbk
   ·exact NB.sk)
  (by
   split
   ·exact List.pairwise_cons.2 ⟨λz d=>by rw[List.mem_singleton.1 d];exact .inr (by rw[NB.addr];exact λe=>a2 e.symm),List.pairwise_singleton _ _⟩
   ·exact List.pairwise_cons.2 ⟨λz d=>by rw[List.mem_singleton.1 d];exact .inr (by rw[NB.addr];exact a2),List.pairwise_singleton _ _⟩)
  hG (λz d=>I z (List.mem_append_left _ d) (hA z d)) (λz d=>I z (List.mem_append_right _ d) (hC z d)) NB.tk NB.up (λa _ _=>by
   have ho:((if left=true then [f,s] else [s,f]).flatMap own).count (a:Int)=(own f).count (a:Int)+(own s).count (a:Int):=by
    cases left
    ·simp[List.count_append,Nat.add_comm]
    ·simp[List.count_append]
   have b9:(own f).count (a:Int)=if t.shared=true then 0 else [y.1].count (a:Int):=congrFun a4 (a:Int)
   simp only[List.count_append,ho,b9,b8,b3];by_cases W:t.shared=true
   ·rw[if_pos W,if_pos W,if_pos W];omega
   ·rw[if_neg W,if_neg W,if_neg W,J,List.count_append];omega)
  (λz d=>by
   have c6:z=y.1/\f.shared=false\/z∈O:=by
    rcases NB.once with⟨j1,j2,_⟩|⟨j1,_⟩
    ·rw[j1] at d;rcases List.mem_cons.1 d with h|h
     ·exact .inl ⟨h,j2⟩
     ·exact .inr h
    ·rw[j1] at d;exact .inr d
   rcases c6 with⟨h1,h2⟩|h
   ·exact .inl ⟨f,by split<;>simp,h2,by rw[NB.addr];exact h1⟩
   ·rcases hO z h with⟨h1,h2⟩|h
    ·exact .inl ⟨s,by split<;>simp,h1,h2⟩
    ·exact .inr h)
  (by rw[G];omega) (by rw[G];exact hm) (by rw[G];omega) (by rw[G];exact b7) (by rw[U];exact hr) (by rw[U];exact hf) (by rw[U];exact b0) e0 b6 hi
 rw[G,U] at Q;refine⟨m,F,f,e1,rfl,b2,X,?_⟩;exact Q
where
 restH_sub {H0:List Int}:∀(way:List Qs) {a:Int},a∈H0->a∈Zn way H0
  |[],a,h=>h
  |t::way,a,h=>List.mem_append_right _ (List.mem_append_right _ (restH_sub way h))
end
section
variable {D:DM}{S0:Sp}{C0:Ct}{H0:List Int}
def Xx (D:DM)(S0:Sp)(C0:Ct)(O H0:List Int)(P:Pl)(its:List Qg)(k:Nat)(E:Option (Pl × Option Int)):Prop:=
 (∃b r,E=some (b,some r)/\Qan D S0 C0 O H0 P b r its k)\/(∃b,E=some (b,none)/\P.C.free<k)
theorem Xx.since {O O':List Int}{P P':Pl}{its:List Qg}{k k':Nat}{E:Option (Pl × Option Int)}(h:Since D O O' H0 P P' k)(e:Xx D S0 C0 O' H0 P' its k' E):Xx D S0 C0 O H0 P its (k+k') E:=by
 rcases e with⟨b,r,d,f⟩|⟨b,d,f⟩
 ·exact .inl ⟨b,r,d,h.fin f⟩
 ·exact .inr ⟨b,d,by have:=h.free;omega⟩
theorem Xx.more {O:List Int}{P:Pl}{its:List Qg}{k k':Nat}{E:Option (Pl × Option Int)}(e:Xx D S0 C0 O H0 P its k E)(hk:k<=k'):Xx D S0 C0 O H0 P its k' E:=by
 rcases e with⟨d,r,f,b⟩|⟨d,f,b⟩
 ·exact .inl ⟨d,r,f,⟨b.keep,b.tree,b.old,by have:=b.free;omega,b.n⟩⟩
 ·exact .inr ⟨d,f,by omega⟩
theorem q8f {l:Nat}{t:Qs}{way:List Qs}{L' R' its:List Qg}{O:List Int}{P:Pl}{x:Ri}{a b:Nat}{B E:List (List Qg)}{n:Int}
  (m:(∃d p u A f,P.Y1 x=some (d,some p)/\Ea D S0 C0 u A H0 d (l+1) t way L' R' a b ⟨n,[],p⟩ B f E/\Since D O u H0 P d 2/\L'++((B++(f++E)).flatten++R')=its)\/(∃d,P.Y1 x=some (d,none)/\P.C.free<2))
  (M:∀{O H:List Int} {P:Pl} {i j:Nat} {e:Nd} {F f G:List (List Qg)},Ea D S0 C0 O H H0 P (l+1) t way L' R' i j e F f G->Xx D S0 C0 O H0 P (L'++((F++(f++G)).flatten++R')) (2*way.length+3) (Y8 D way P t i j e)) :
  Xx D S0 C0 O H0 P its (2*way.length+5) (match P.Y1 x with
    |some (d,some p)=>Y8 D way d t a b ⟨n,[],p⟩
    |some (d,none)=>some (d,none)
    |none=>none):=by
 rcases m with⟨d,p,u,A,f,y,I,J,K⟩|⟨d,y,I⟩
 ·rw[y];have:=Xx.since J (M I);rw[K] at this;exact this.more (by omega)
 ·rw[y];exact .inr ⟨d,rfl,by omega⟩
theorem Rq (A B:List Ja):rowOf (A++B)=rowOf A++rowOf B:=by unfold rowOf;simp
theorem q6g (y:Ja):rowOf [y]=y.2:=by unfold rowOf;simp
theorem qb1:∀(way:List Qs) {l:Nat} {s:Qs} {O H:List Int} {P:Pl} {L Rr:List Qg} {i j:Nat} {d:Nd} {Y Mc Z:List (List Qg)},Ea D S0 C0 O H H0 P l s way L Rr i j d Y Mc Z->
  Xx D S0 C0 O H0 P (L++((Y++(Mc++Z)).flatten++Rr)) (2*way.length+3) (Y8 D way P s i j d)
 |[],l,s,O,H,P,L,Rr,i,j,d,Y,Mc,Z,h=>by
  obtain⟨P1,e1,K1,K,hs,a7,u,G⟩:=qcu h;obtain⟨rfl,rfl⟩:=h.up;have J:=h.rise;have I:=h.fine;have f:=h.few;simp only[List.nil_append,List.append_nil] at J I f;have ht:=qum K1 K hs (H0:=H0) (λ_ _ _=>rfl) J I G (by have:=h.high;omega) f h.most h.one (λy hy=>by
   rcases h.opens y hy with h|⟨t,ht,_⟩
   ·exact h
   ·cases ht)
  have ee:Y8 D [] P s i j d=P1.top s (Xr s i j d):=by
   show (match P.Qv s i j with|some P1=>P1.top s (Xr s i j d)|none=>none)=_;rw[e1]
  rw[ee,List.nil_append,List.append_nil];exact (Xx.since (k:=0) (k':=3) u ht).more (by simp)
 |t::way,l,s,O,H,P,L,Rr,i,j,d,Y,Mc,Z,h=>by
  obtain⟨P1,e1,K1,K,hs,a7,u,G⟩:=qcu h;have b0:Qr (l:Int)*2=Qq (l:Int)/\3<=Qr (l:Int):=by unfold Qr Qq;split<;>omega
  obtain⟨U,W,x,L',R',g1,X,g3,g4,g5,g6,g7,g8,g9,a0,a1,a2,a6⟩:=a7;have Q:=q4y K;have R:=q5l K;have hk:=Fe g5 (by rw[g1];show ¬((l+1:Nat):Int)=0;omega);have m:=hk.2.2.2.2.1;have F:=hk.2.2.2.1;rw[g1] at m F;have m:((U++x::W).map Qp).length<=12:=m;have F:2<=((U++x::W).map Qp).length:=F;simp only[List.length_map,List.length_append,List.length_cons] at m F;have hi:=h.high;rw[List.length_cons] at hi;have T:=h.least (by simp);have a4:=h.most;have hO:∀z∈O,(s.shared=false/\z=s.addr)\/(t.shared=false/\z=t.addr)\/∃t'∈way,t'.shared=false/\z=t'.addr:=λz E=>by
   rcases h.opens z E with hx|⟨t',a5,hx⟩
   ·exact .inl hx
   ·rcases List.mem_cons.1 a5 with e|a5
    ·rw[e] at hx;exact .inr (.inl hx)
    ·exact .inr (.inr ⟨t',a5,hx⟩)
  have ih:=λ{O H:List Int} {P:Pl} {i j:Nat} {d:Nd} {Y Mc Z:List (List Qg)} (e:Ea D S0 C0 O H H0 P (l+1) t way L' R' i j d Y Mc Z)=>qb1 way e
  have J:=h.rise;have I:=h.fine;have f:=h.few;have a3:=h.H0s;have ee:Y8 D (t::way) P s i j d=match P1.have_ D s (Xr s i j d) t with
    |some (x,P2)=>match P2.Y1 x with
     |some (P3,some ks)=>Y8 D way P3 t x.i x.j ⟨x.N.lvl+1,[],ks⟩
     |some (P3,none)=>some (P3,none)
     |none=>none
    |none=>none:=by
   show (match P.Qv s i j with|some P1=>_|none=>none)=_;rw[e1];rfl
  generalize hM:Y++(Mc++Z)=M at K R T a4 J I f G;generalize a9:Xr s i j d=b at K Q R K1 ee;rw[ee];unfold Pl.have_;by_cases c1:Qr b.lvl<=b.size
  ·-- enough
   rw[if_pos c1];dsimp only;have p:L++(M.flatten++Rr)=(L'++rowOf U)++(M.flatten++(rowOf W++R')):=by rw[a1,a2]
   rw[p] at J I f ⊢;have a8:=qkx (H0:=H0) K1 (l:=l) (t:=t) (way:=way) (L':=L') (R':=R') (N:=b) (M:=M) (olds:=[s]) (A:=U) (B:=[x]) (C:=W) K (by rw[Q,R] at c1;exact c1) (by omega) (λz E=>by rw[List.mem_singleton.1 E];exact hs) (List.pairwise_singleton _ _)
    (by rw[g1];rfl) (λz E=>g7 z (List.mem_append_left _ E)) (λz E=>g7 z (List.mem_append_right _ E)) g9 a0 (λa _ _=>by
     have e:(Zn (t::way) H0).count (a:Int)=(own t).count (a:Int)+((if t.shared=true then [] else (Zq t t.next (t.next+1)).named).count (a:Int)+(Zn way H0).count (a:Int)):=by
      show (own t++((if t.shared=true then [] else (Zq t t.next (t.next+1)).named)++Zn way H0)).count _=_;rw[List.count_append,List.count_append]
     rw[q2f g1 X] at e;rw[List.flatMap_cons,List.flatMap_nil,List.append_nil];simp only[List.count_append,e])
    (λz E=>by
     rcases hO z E with h|h
     ·exact .inl ⟨s,List.mem_singleton.2 rfl,h⟩
     ·exact .inr h)
    (by simp) (by simp;omega) (by simp;omega) (λhw=>by have:=g6 hw;simp;omega) J I f G a3 (by omega)
   have:=q8f (x:=⟨b,[s],t.next,t.next+1⟩) (n:=b.lvl+1) (by rw[X];exact a8) ih;rw[<-X] at this;exact (Xx.since (k:=0) u this).more (by rw[List.length_cons];omega)
  ·rw[if_neg c1];rw[Q,R] at c1;by_cases c2:0<t.next
   ·-- the neighbour ahead
    rw[if_pos c2];obtain⟨A,y,rfl⟩:∃A y,U=A++[y]:=⟨U.dropLast,U.getLast (λe=>by rw[X,e] at c2;cases c2),(List.dropLast_concat_getLast _).symm⟩;have p:L++(M.flatten++Rr)=(L'++rowOf A)++((if true=true then y.2++M.flatten else M.flatten++y.2)++(rowOf W++R')):=by
     rw[a1,a2,Rq,q6g,if_pos rfl];simp only[List.append_assoc]
    rw[p] at J I f ⊢;simp only[List.length_append,List.length_cons,List.length_nil] at X g6 m F;obtain⟨P2,O2,nb,j1,j2,j3,j4,j5⟩:=qeh (H0:=H0) true (x:=x) (y:=y) (A:=A) (C:=W) K1 a3 (by omega) (by rw[g1];simp) (by rw[X];rfl) g4 (by omega) (λhw=>by have:=g6 hw;omega) (λz E=>g7 z (by simp[E])) (λz E=>g7 z (by simp[E])) (g7 y (by simp)) (a6 y (by simp)) g9 hs a0 K (by omega) (by omega) hO J I f G;rw[if_pos rfl] at j1 j2;rw[j1,<-j2];simp only[if_true] at j5;simp only[Option.map_some];have en:t.next-1=A.length/\t.next+1=A.length+2:=by omega
    rw[en.1,en.2,j3];have:=q8f (n:=(l:Int)+1) j5 ih;exact (Xx.since (k:=0+0) (u.trans j4) this).more (by rw[List.length_cons];omega)
   ·-- the neighbour behind
    rw[if_neg c2];obtain rfl:U=[]:=List.eq_nil_of_length_eq_zero (by omega);obtain⟨y,C,rfl⟩:∃y C,W=y::C:=by
     match W,F with
     |y::C,_=>exact⟨y,C,rfl⟩
     |[],h=>simp at h
    have p:L++(M.flatten++Rr)=(L'++rowOf [])++((if false=true then y.2++M.flatten else M.flatten++y.2)++(rowOf C++R')):=by
     rw[a1,a2,if_neg (by decide)];have:rowOf (y::C)=y.2++rowOf C:=by rw[show y::C=[y]++C from rfl,Rq,q6g]
     rw[this];simp only[List.append_assoc]
    rw[p] at J I f ⊢;simp only[List.length_cons,List.length_nil] at X g6 m F;obtain⟨P2,O2,nb,j1,j2,j3,j4,j5⟩:=qeh (H0:=H0) false (x:=x) (y:=y) (A:=[]) (C:=C) K1 a3 (by omega) (by rw[g1];simp) (by rw[X];rfl) g4 (by simp;omega) (λhw=>by have:=g6 hw;simp;omega) (λz E=>by cases E) (λz E=>g7 z (by simp[E])) (g7 y (by simp)) (a6 y (by simp)) g9 hs a0 K (by omega) (by omega) hO J I f G;rw[if_neg (by decide)] at j1 j2;rw[j1,<-j2];simp only[Bool.false_eq_true,if_false] at j5;simp only[Option.map_some];have en:t.next=([]:List Ja).length/\t.next+2=([]:List Ja).length+2:=by simp;omega
    rw[en.2,Q];have e3:t.next=([]:List Ja).length:=en.1;rw[e3];have:=q8f (n:=(l:Int)+1) j5 ih;exact (Xx.since (k:=0+0) (u.trans j4) this).more (by rw[List.length_cons];omega)
end
