/- The root is laid down anew; a neighbour is read -/
import Derived.Test.YtnnbaihfboacoaaGreatDoorEu31
namespace Go.Proofs.YtnnbaihfboacoaaGreatDoor
open Go Go.RowKit Go.Proofs
theorem q97 {R:Int->Nd × Int}{l:Nat}{N:Nd}{M:List (List Qc)}(h:Yr R l N M)(b:∀x∈M.flatten,Ko x=none)(i j:Nat):(N.cut i j).named=(N.named.drop i).take (j-i):=by
 cases l with
 |zero=>
  have h1:N.named=[]:=by
   obtain⟨its,rfl,rfl⟩:=h;rw[Ig] at b;unfold Nd.named;rw[List.filterMap_eq_nil_iff.2 b];rfl
  obtain⟨its,d,e⟩:=q69 h i j;rw[h1,d];have:∀x∈its,Ko x=none:=λx f=>b x (qk5 (by rw[e,Ig];exact f))
  unfold Nd.named;rw[List.filterMap_eq_nil_iff.2 this];simp
 |succ l=>
  obtain⟨G,rfl,rfl,m⟩:=h;rw[q4u,q1j,q1j,List.map_take,List.map_drop]
theorem qq0 {R:Int->Nd × Int}{l:Nat}{N:Nd}{M:List (List Qc)}(h:Yr R l N M)(b:∀x∈M.flatten,Ko x=none):N.named.length<=M.length:=(O7 h b).2.2
theorem q8p {R:Int->Nd × Int}{l:Nat}{N:Nd}{M:List (List Qc)}(h:Yr R l N M)(b:∀x∈M.flatten,Ko x=none)(h2:M.length<=2*Qq (l:Int)):(pieces N).flatMap Nd.named=N.named:=by
 have hn:=qq0 h b;by_cases h0:M.length=0
 ·rw[qaf h h0,List.flatMap_nil,List.eq_nil_of_length_eq_zero (show N.named.length=0 by omega)]
 ·by_cases h1:M.length<=Qq (l:Int)
  ·rw[qch h (by omega) h1,List.flatMap_cons,List.flatMap_nil,List.append_nil,q97 h b,List.drop_zero,List.take_of_length_le (by omega)]
  ·rw[qci h (by omega) h2,List.flatMap_cons,List.flatMap_cons,List.flatMap_nil,List.append_nil,q97 h b,q97 h b,List.drop_zero,Nat.sub_zero,List.take_of_length_le (l:=N.named.drop (M.length / 2)) (by rw[List.length_drop];omega),List.take_append_drop]
structure Piece (R:Int->Nd × Int)(l:Nat)(p:Nd)(Mp:List (List Qc)):Prop where
 Fp:Yr R l p Mp
 one:1<=Mp.length
 most:Mp.length<=Qq (l:Int)
theorem q7w {R:Int->Nd × Int}{l:Nat}{N:Nd}{M:List (List Qc)}(h:Yr R l N M)(h2:M.length<=2*Qq (l:Int)) :
  (M=[]/\pieces N=[])\/(1<=M.length/\M.length<=Qq (l:Int)/\pieces N=[N.cut 0 M.length]/\Piece R l (N.cut 0 M.length) M)\/
   (Qq (l:Int)<M.length/\∃b d,M=b++d/\pieces N=[N.cut 0 (M.length / 2),N.cut (M.length / 2) M.length]/\Piece R l (N.cut 0 (M.length / 2)) b/\Piece R l (N.cut (M.length / 2) M.length) d/\Qr (l:Int)<=b.length/\Qr (l:Int)<=d.length):=by
 have e:Qr (l:Int)*2=Qq (l:Int)/\3<=Qr (l:Int):=by unfold Qr Qq;split<;>omega
 by_cases h0:M.length=0
 ·exact .inl ⟨List.eq_nil_of_length_eq_zero h0,qaf h h0⟩
 ·by_cases h1:M.length<=Qq (l:Int)
  ·refine .inr (.inl ⟨by omega,h1,qch h (by omega) h1,?_,by omega,h1⟩);have:=q69 h 0 M.length;rw[List.drop_zero,Nat.sub_zero,List.take_length] at this;exact this
  ·refine .inr (.inr ⟨by omega,M.take (M.length / 2),M.drop (M.length / 2),(List.take_append_drop _ _).symm,qci h (by omega) h2,⟨?_,?_,?_⟩,⟨?_,?_,?_⟩,?_,?_⟩)
   ·have:=q69 h 0 (M.length / 2);rw[List.drop_zero,Nat.sub_zero] at this;exact this
   ·rw[List.length_take];omega
   ·rw[List.length_take];omega
   ·have:=q69 h (M.length / 2) M.length;rw[List.take_of_length_le (by rw[List.length_drop];omega)] at this;exact this
   ·rw[List.length_drop];omega
   ·rw[List.length_drop];omega
   ·rw[List.length_take];omega
   ·rw[List.length_drop];omega
section
variable {D:DM}{S0:Sp}{C0:Ct}{O H:List Int}{P:Pl}
theorem Piece.fits {R:Int->Nd × Int}{l:Nat}{p:Nd}{Mp:List (List Qc)}(h:Piece R l p Mp)(hl:l<8)(h2:0<l->2<=Mp.length)(hr:Qd Mp.flatten)(hf:∀x∈Mp.flatten,Ze x):Fits R p:=
 qjy h.Fp (λx b=>(hf x b).2.2) (qpe h.Fp hl h.one h2 h.most hr hf)
theorem qeh {R:Int->Nd × Int}{l:Nat}{p:Nd}{b:List (List Qc)}(h:Piece R l p b):b≠[]:=λe=>by
 have:=h.one;rw[e] at this;exact absurd this (by decide)
theorem q3q {R R':Int->Nd × Int}{l:Nat}{p:Nd}{b:List (List Qc)}(h:Piece R l p b)(f:Qr (l:Int)<=b.length)(e:Ext R R'){a:Int}(d:R' a=(p,0))(h1:1<=a/\a<2048):good1 R' l (a,b.flatten)/\Wq p a=Qn (a,b.flatten):=by
 refine⟨⟨qae h.Fp (qeh h) e d,by rw[d];exact (q3n h.Fp).2 f,h1⟩,?_⟩;unfold Wq Qn;rw[qpd h.Fp (qeh h)]
structure Qaj (D:DM)(S0:Sp)(C0:Ct)(O H0:List Int)(P P':Pl)(root:Int)(its:List Qc)(k:Nat):Prop where
 keep:Keep D S0 C0 [] ((if root=0 then [] else [root])++H0) P'
 tree:(its=[]/\root=0)\/∃l,l<=6/\Qp (P'.hide D []) l root its/\1<=root/\root<2048
 old:∀l a t,a∈H0->Qp (P.hide D O) l a t->Qp (P'.hide D []) l a t
 free:P.C.free<=P'.C.free+k
 n:P'.C.n=P.C.n
theorem qkc {R:Int->Nd × Int}(b:∀l y,good1 R l y->3*6 ^ l<=y.2.length){l:Nat}:∀(G:List Zw),(∀y∈G,good1 R l y)->G.length*(3*6 ^ l)<=(G.map (·.2)).flatten.length
 |[],_=>by simp
 |y::G,h=>by
  have h1:=b l y (h y (List.mem_cons_self ..));have h2:=qkc b G λz d=>h z (List.mem_cons_of_mem _ d)
  rw[List.map_cons,List.flatten_cons,List.length_append,List.length_cons,Nat.add_mul,Nat.one_mul];omega
theorem Keep.Tc (K:Keep D S0 C0 O H P){l:Nat}{N:Nd}{M:List (List Qc)}(h:Yr (P.hide D O) (l+1) N M)(h2:2<=M.length)(hlen:M.flatten.length<=1000):l<=2:=by
 obtain⟨G,rfl,rfl,b⟩:=h;have e:=qkc (λl y d=>K.long l y d) G b;rw[List.length_map] at h2;have f:2*(3*6 ^ l)<=G.length*(3*6 ^ l):=Nat.mul_le_mul_right _ h2;refine Classical.byContradiction λp=>?_
 have m:6 ^ 3<=6 ^ l:=Nat.pow_le_pow_right (by omega) (by omega);omega
theorem Nc {a b:List Qc}(h:Qd (a++b)):Qd a/\Qd b:=⟨(List.pairwise_append.1 h).1,(List.pairwise_append.1 h).2.1⟩
theorem qts (K:Keep D S0 C0 O H P){l:Nat}{s:Qu}{b:Nd}{M:List (List Qc)}(X:Yr (P.hide D O) l b M)(hs:Zv P D O (l:Int) s){H0:List Int}(hH:∀a:Nat,0<a->a<P.C.n->H.count (a:Int)=(own s++(b.named++H0)).count (a:Int))
  (hr:Qd M.flatten) (hf:∀x∈M.flatten,Ze x) (hl:l<8) (a8:M.flatten.length<=1000) (b9:M.length<=Qq (l:Int)+1) (b3:0<l->1<=M.length) (hO:∀y∈O,s.shared=false/\y=s.addr) :
  (∃P' r,P.top s b=some (P',some r)/\Qaj D S0 C0 O H0 P P' r M.flatten 3)\/(∃P',P.top s b=some (P',none)/\P.C.free<3):=by
 have b8:Qr (l:Int)*2=Qq (l:Int)/\3<=Qr (l:Int):=by unfold Qr Qq;split<;>omega
 unfold Pl.top;by_cases h1:b.kids.length=1
 ·left
  rw[if_pos h1]
  cases l with
  |zero=>
   obtain⟨its,rfl,_⟩:=X;exact absurd h1 (by simp)
  |succ l=>
   obtain⟨G,rfl,rfl,hg⟩:=X;match G,h1,hg,hH with
   |[x],_,hg,hH=>
    obtain⟨k1,k2,E⟩:=hg x (List.mem_singleton.2 rfl);have e:(⟨((l+1:Nat):Int),[],[x].map Qn⟩:Nd).named=[x.1]:=q1j l [x];rw[e] at hH;obtain⟨A,e1,T,u,_⟩:=qck K hs hH;have W:Dw O s=[]:=List.eq_nil_iff_forall_not_mem.2 λy hy=>by
     obtain⟨j1,j2⟩:=qk6 hy;obtain⟨j3,j4⟩:=hO y j1;exact j2 j3 j4
    rw[W] at T u;rw[e1];refine⟨A,x.1,rfl,?_,.inr ⟨l,by omega,?_,E⟩,λl a t _ ht=>P9 u.ext ht,by have:=u.free;omega,u.n⟩
    ·rw[if_neg (by omega)];exact T
    ·have:([x].map (·.2)).flatten=x.2:=by simp
     rw[this];exact P9 u.ext k1
   |[],h1,_,_=>simp at h1
   |_::_::_,h1,_,_=>simp at h1
 ·rw[if_neg h1];have a7:M.length<=2*Qq (l:Int):=by omega
  have F:∀x∈M.flatten,Ko x=none:=λx R=>(hf x R).2.2
  have b0:0<l->2<=M.length:=λb1=>by
   have:=b3 b1;refine Classical.byContradiction λhc=>h1 ?_
   cases l with
   |zero=>omega
   |succ l=>
    obtain⟨G,rfl,rfl,hg⟩:=X;rw[List.length_map] at this hc ⊢;omega
  have b7:l<=3:=by
   cases l with
   |zero=>omega
   |succ l=>have:=K.Tc X (b0 (by omega)) a8;omega
  have b4:=q8p X F a7;have a6:=q7w X a7;have Y:∀p∈pieces b,Fits (P.hide D O) p:=λp B=>by
   rcases a6 with⟨_,e⟩|⟨k1,k2,e,E⟩|⟨k1,f,m,rfl,e,E,k4,k5,k6⟩
   ·rw[e] at B;cases B
   ·rw[e,List.mem_singleton] at B;rw[B];exact E.fits hl b0 hr hf
   ·rw[List.flatten_append] at hr hf;rw[e] at B;rcases List.mem_cons.1 B with rfl|B
    ·exact E.fits hl (λ_=>by omega) (Nc hr).1 λx R=>hf x (List.mem_append_left _ R)
    ·rw[List.mem_singleton] at B;rw[B];exact k4.fits hl (λ_=>by omega) (Nc hr).2 λx R=>hf x (List.mem_append_right _ R)
  have b5:(pieces b).length<=2:=by
   rcases a6 with⟨_,e⟩|⟨k1,k2,e,E⟩|⟨k1,f,m,_,e,E,k4,k5,k6⟩<;>rw[e]<;>simp
  rcases qk7 (l:=(l:Int)) K ⟨b,[s],0,0⟩ H0 (λs' b6=>by rw[List.mem_singleton.1 b6];exact hs) (List.pairwise_singleton _ _) Y (λa h1 h2=>by
    rw[hH a h1 h2,b4,List.flatMap_cons,List.flatMap_nil,List.append_nil]) with⟨A,O1,az,d,g2,T,u,gO,U⟩|⟨A,d,g2⟩
  ·have W:O1=[]:=List.eq_nil_iff_forall_not_mem.2 λy hy=>by
    obtain⟨j1,j2⟩:=gO y hy;obtain⟨j3,j4⟩:=hO y j1;exact j2 s (List.mem_singleton.2 rfl) j3 j4
   subst W;rw[g2];dsimp only;have J:∀l a t,a∈H0->Qp (P.hide D O) l a t->Qp (A.hide D []) l a t:=λl a t _ ht=>P9 u.ext ht
   have Z:=u.free;have d:az.length=(pieces b).length:=d;have U:Uu (A.hide D []) (pieces b) az:=U;have c6:P.C.free<=A.C.free+(pieces b).length:=Z;rcases a6 with⟨hM,e⟩|⟨k1,k2,e,E⟩|⟨k1,f,m,rfl,e,E,k4,k5,k6⟩
   ·left
    rw[e] at d ⊢;obtain rfl:az=[]:=List.eq_nil_of_length_eq_zero (by rw[d];rfl);refine⟨A,0,rfl,?_,.inl ⟨by rw[hM];rfl,rfl⟩,J,by omega,u.n⟩;rw[if_pos rfl];exact T
   ·left
    rw[e] at d U ⊢;match az,d with
    |[a],_=>
     obtain⟨j1,j2⟩:=U (b.cut 0 M.length,a) (List.mem_singleton.2 rfl);refine⟨A,a,rfl,?_,.inr ⟨l,by omega,qae E.Fp (qeh E) u.ext j1,j2⟩,J,by omega,u.n⟩;rw[if_neg (by have:1<=a:=j2.1;omega)];exact T
    |[],d=>cases d
    |_::_::_,d=>cases d
   ·rw[e] at d U ⊢;match az,d,T with
    |[a1,a2],_,T=>
     obtain⟨p1,q1⟩:=U (_,a1) (List.mem_cons_self ..);obtain⟨p2,q2⟩:=U (_,a2) (List.mem_cons_of_mem _ (List.mem_singleton.2 rfl));obtain⟨t1,u1⟩:=q3q E k5 u.ext p1 q1;obtain⟨t2,u2⟩:=q3q k4 k6 u.ext p2 q2;have ek:List.zipWith Wq [b.cut 0 ((f++m).length / 2),b.cut ((f++m).length / 2) (f++m).length] [a1,a2]=[(a1,f.flatten),(a2,m.flatten)].map Qn:=by
      show [Wq _ a1,Wq _ a2]=_;rw[u1,u2];rfl
     rw[ek];have b2:=q4s X;have eN:(⟨b.lvl+1,[],[(a1,f.flatten),(a2,m.flatten)].map Qn⟩:Nd)=⟨((l+1:Nat):Int),[],[(a1,f.flatten),(a2,m.flatten)].map Qn⟩:=by rw[b2];rfl
     rw[eN];have hB:Yr (A.hide D []) (l+1) ⟨((l+1:Nat):Int),[],[(a1,f.flatten),(a2,m.flatten)].map Qn⟩ [f.flatten,m.flatten]:=⟨_,rfl,rfl,λx R=>by
      rcases List.mem_cons.1 R with rfl|R
      ·exact t1
      ·rw[List.mem_singleton.1 R];exact t2⟩
     have Q:[f.flatten,m.flatten].flatten=(f++m).flatten:=by simp
     have hF:Fits (A.hide D []) ⟨((l+1:Nat):Int),[],[(a1,f.flatten),(a2,m.flatten)].map Qn⟩:=
      qjy hB (by rw[Q];exact F) (qpe hB (by omega) (by simp) (λ_=>by simp) (by have:Qq ((l+1:Nat):Int)=12:=if_neg (by omega);rw[this];simp) (by rw[Q];exact hr) (by rw[Q];exact hf))
     have I:([(a1,f.flatten),(a2,m.flatten)].map Qn).length=2:=rfl;rw[if_neg (by rw[I];decide),if_neg (by rw[I];decide)]
     cases B:A.C.pick with
     |none=>
      right
      have he:A.Jq ⟨((l+1:Nat):Int),[],[(a1,f.flatten),(a2,m.flatten)].map Qn⟩=6:=by unfold Pl.Jq;rw[if_pos hF.may];exact (Ct.Vm B).1
      rw[if_neg (by rw[he];decide),if_pos he];refine⟨_,rfl,?_⟩;have:=Ct.Ws B;omega
     |some c=>
      left
      obtain⟨e0,eV,K2,hN,mv,c1,c2⟩:=T.put (H0:=H0) B hF (λa _ _=>by
       rw[q1j,List.count_append];rfl)
      rw[if_pos e0,eV];have h3:=qae hB (by simp) (mv 0).ext hN;rw[Q] at h3;have c7:=(mv 0).free;refine⟨_,_,rfl,?_,.inr ⟨l+1,by omega,h3,by omega,by omega⟩,λl a t ha ht=>P9 (mv 0).ext (J l a t ha ht),by omega,(mv 0).n.trans u.n⟩;rw[if_neg (by omega)];exact K2
    |[],d,_=>cases d
    |[_],d,_=>cases d
    |_::_::_::_,d,_=>cases d
  ·right
   rw[d];exact⟨A,rfl,by have g2:P.C.free<(pieces b).length:=g2;omega⟩
end
section
variable {D:DM}{S0:Sp}{C0:Ct}{O H:List Int}{P:Pl}
theorem qmi (K:Keep D S0 C0 O H P){c:Nat}(h1:P.C.get (c:Int)=1)(d:(c:Int)∈H){l:Nat}{y:Zw}(b:y.1≠(c:Int))(h:good1 (P.hide D O) l y):good1 (P.hide D ((c:Int)::O)) l y:=
 ⟨q4r K h1 d l _ _ b h.1,by rw[q2g b];exact h.2.1,h.2.2⟩
theorem qtt (K:Keep D S0 C0 O H P){c:Nat}(h1:P.C.get (c:Int)=1)(d:(c:Int)∈H){l:Nat}{N:Nd}{M:List (List Qc)}(hn:(c:Int)∉N.kids.map (·.a))(h:Yr (P.hide D O) l N M):Yr (P.hide D ((c:Int)::O)) l N M:=by
 cases l with
 |zero=>exact h
 |succ l=>
  obtain⟨G,rfl,h2,f⟩:=h;refine⟨G,rfl,h2,λx b=>qmi K h1 d (λe=>hn ?_) (f x b)⟩;rw[<-e];exact List.mem_map.2 ⟨Qn x,List.mem_map_of_mem b,rfl⟩
theorem qtu {R:Int->Nd × Int}{l:Nat}{s:Qu}{M:List (List Qc)}(h:Yr R l s.N M):Zx s 0 0=s.N:=by
 cases l with
 |zero=>
  obtain⟨its,e,_⟩:=h;unfold Zx;rw[e];unfold Jd Nd.cut Nd.size;simp
 |succ l=>
  obtain⟨G,e,_⟩:=h;rw[q7v e,e];simp
structure I9 (D:DM)(O O':List Int)(P P':Pl)(c:Int):Prop where
 tree:∀l a its,a≠c->Qp (P.hide D O) l a its->Qp (P'.hide D O') l a its
 other:∀a,a≠c->(P.hide D O a).2=0->P'.hide D O' a=P.hide D O a
theorem I9.good {O':List Int}{P':Pl}{c:Int}(h:I9 D O O' P P' c){l:Nat}{y:Zw}(hy:y.1≠c)(hg:good1 (P.hide D O) l y):good1 (P'.hide D O') l y:=
 ⟨h.tree l _ _ hy hg.1,by rw[h.other _ hy (Fq hg.1).2.2];exact hg.2.1,hg.2.2⟩
theorem I9.Fp {O':List Int}{P':Pl}{c:Int}(h:I9 D O O' P P' c){l:Nat}{N:Nd}{M:List (List Qc)}(hn:c∉N.kids.map (·.a))(hb:Yr (P.hide D O) l N M):Yr (P'.hide D O') l N M:=by
 cases l with
 |zero=>exact hb
 |succ l=>
  obtain⟨G,rfl,h2,d⟩:=hb;refine⟨G,rfl,h2,λx b=>h.good (λe=>hn ?_) (d x b)⟩;rw[<-e];exact List.mem_map.2 ⟨Qn x,List.mem_map_of_mem b,rfl⟩
theorem qtv {b:List Int}{P':Pl}{c:Int}(e:Ext (P.hide D O) (P'.hide D b)):I9 D O b P P' c:=⟨λ_ _ _ _ h=>P9 e h,λa _ h=>e a h⟩
theorem qvd {t:Qu}{l:Nat}{G:List Zw}(h:t.N=⟨((l+1:Nat):Int),[],G.map Qn⟩){q:Nat}{y:Zw}(d:G[q]?=some y):q<t.N.kids.length/\Qg t.N.kids q=Qn y:=by
 obtain⟨b,e⟩:=List.getElem?_eq_some_iff.1 d;rw[h];refine⟨by show q<(G.map Qn).length;rw[List.length_map];exact b,?_⟩;show Qg (G.map Qn) q=_;rw[qdo b,e]
structure Qa7 (D:DM)(S0:Sp)(C0:Ct)(O H H0:List Int)(P:Pl)(l:Nat)(t s:Qu)(way:List Qu)(L' R':List Qc)(y:Zw)(nb:Qu)(P':Pl)(O':List Int):Prop where
 keep:Keep D S0 C0 O' (nb.N.named++H) P'
 near:I9 D O O' P P' y.1
 once:(O'=y.1::O/\nb.shared=false/\H.count y.1=1/\t.shared=false)\/(O'=O/\Ext (P.hide D O) (P'.hide D O'))
 nbk:Zv P' D O' (l:Int) nb
 sk:Zv P' D O' (l:Int) s
 tk:Zv P' D O' ((l+1:Nat):Int) t
 up:Y1 P' D O' (l+1) t way L' R'
 free:P.C.free<=P'.C.free
 n:P'.C.n=P.C.n
 addr:nb.addr=y.1
 held:nb.held=t.shared
theorem qq1 (K:Keep D S0 C0 O H P){l:Nat}{s t:Qu}{way:List Qu}{L' R':List Qc}{H0:List Int}{G:List Zw}{q:Nat}{y:Zw}(hG:t.N=⟨((l+1:Nat):Int),[],G.map Qn⟩)(hq:G[q]?=some y)(hy:good1 (P.hide D O) l y)
  (ht:Zv P D O ((l+1:Nat):Int) t) (hs:Zv P D O (l:Int) s) (m:y.1≠s.addr) (X:Y1 P D O (l+1) t way L' R') (hf:∀x∈y.2,Ko x=none) (hH:H.length<=20000)
  (b3:t.shared=false->P.C.get y.1=1->y.1∈H/\y.1∉Zu way H0/\y.1≠t.addr) :
  ∃P' O' B,P.near D t q=some P'/\Qa7 D S0 C0 O H H0 P l t s way L' R' y (P.Jj D t q) P' O'/\Yr (P'.hide D O') l (P.Jj D t q).N B/\B.flatten=y.2/\Qr (l:Int)<=B.length/\B.length<=Qq (l:Int)/\(P.Jj D t q).N.lvl=(l:Int):=by
 obtain⟨k1,k2⟩:=qvd hG hq;obtain⟨ho,he,n,hn,b5,h0⟩:=q32 (Fq hy.1).2.2;have W:P.hide D O y.1=P.store D y.1:=q1z ho;have hE:P.Zh D y.1=0:=he;have u:(P.Qh D y.1).lvl=(l:Int):=by
  have:=(Fq hy.1).2.1;rw[W] at this;exact this
 have a7:(Qg t.N.kids q).a=y.1:=by rw[k2];rfl
 have b6:P.Wn D t q=true:=by
  unfold Pl.Wn;rw[a7];refine decide_eq_true ⟨k1,hE,?_⟩;rw[u,hG];show (l:Int)=((l+1:Nat):Int)-1;omega
 have a1:P.Jj D t q=P.spot D y.1 t.shared:=by unfold Pl.Jj;rw[a7]
 obtain⟨B,F,J,hL,b8⟩:=K.Fp hy.1;have hN:(P.hide D O y.1).1=P.Qh D y.1:=by rw[W];rfl
 rw[hN] at F;have a2:=hy.2.1;rw[hN] at a2;have A:=(qk8 F (by have:=hL.may;rwa [hN] at this)).1;have f:=(q3n F).1 a2;have R:P.near D t q=P.Qx (P.spot D y.1 t.shared) 0 0:=by unfold Pl.near;rw[if_pos b6,a1]
 rw[R,a1];have M:(P.spot D y.1 t.shared).N=P.Qh D y.1:=rfl;have p:∀x∈B.flatten,Ko x=none:=by rw[J];exact hf
 have Q:((P.Qh D y.1).cut 0 0).named=[]:=by
  rw[q97 F p];simp
 have b1:Outside (P.hide D O) l (P.spot D y.1 t.shared).N 0 0 [] B:=by
  have:=qah F (i:=0) (j:=0) (Nat.le_refl _) (Nat.zero_le _);rw[List.take_zero,List.drop_zero] at this;exact this
 have b9:Qq (l:Int)<=12:=by unfold Qq;split<;>omega
 by_cases b:(P.spot D y.1 t.shared).shared=true
 ·obtain⟨P',e1,Z,I⟩:=q8m K (s:=P.spot D y.1 t.shared) b1 (by simpa using p) (λh=>by rw[b] at h;cases h) (by simp;omega) hH;rw[if_pos b,qtu (s:=P.spot D y.1 t.shared) F,M] at Z;have ha:=(I ((l:Int)-1)).above;refine⟨P',O,B,e1,⟨Z,qtv (I 0).ext,.inr ⟨rfl,(I 0).ext⟩,?_,hs.above K ha (by omega),ht.above K ha (by omega),X.ext K (I (l:Int)).ext (I (l:Int)).above (by omega),by have:=(I 0).free;omega,(I 0).n,rfl,rfl⟩,qe7 F (I 0).ext,J,f,A,u⟩;have b4:Zv P D O (l:Int) (P.spot D y.1 t.shared):=⟨λ_ h2=>⟨by
   have h2:t.shared=false:=h2;have h3:(t.shared||decide (1<P.C.get y.1))=true:=b;rw[h2,Bool.false_or] at h3;have:=of_decide_eq_true h3;show 2<=P.C.get y.1;omega,ho,u⟩,λh=>by rw[b] at h;cases h⟩
  exact b4.above K ha (by omega)
 ·have h3:(t.shared||decide (1<P.C.get y.1))=false:=by
   cases e:(t.shared||decide (1<P.C.get y.1)) with
   |false=>rfl
   |true=>exact absurd e b
  obtain⟨Y,h5⟩:=Bool.or_eq_false_iff.1 h3;have h5:=of_decide_eq_false h5;have a6:P.C.get y.1=1:=by
   have:=K.nonneg y.1;rw[hn] at h5 this ⊢;omega
  obtain⟨i1,i2,i3⟩:=b3 Y a6;have e1:P.Qx (P.spot D y.1 t.shared) 0 0=some P:=by
   unfold Pl.Qx;rw[if_neg b];split
   ·rfl
   ·rw[M,Q];rfl
  have E:P.C.get (n:Int)=1:=by rw[<-hn];exact a6
  have d:(n:Int)∈H:=by rw[<-hn];exact i1
  have b7:(n:Int)∉O:=by rw[<-hn];exact ho
  have Z:=K.open_ E d b7;obtain⟨o1,o2⟩:=K.once E d;have a8:(P.Qh D (n:Int)).named=(P.Qh D (n:Int)).kids.map (·.a):=by
   rw[<-hn];have:=q3l hL;rw[hN] at this;exact this
  rw[<-a8,<-hn] at Z;have U:(n:Int)∉(P.Qh D y.1).kids.map (·.a):=λh=>o2 n b5 (by
   rw[<-hn,W];show y.1∈(P.Qh D y.1).named;rw[hn,a8,<-hn];rw[hn,<-hn] at h;exact h)
  have b0:I9 D O (y.1::O) P P y.1:=by
   refine⟨λl a its m h=>?_,λa m h=>q2g m⟩;rw[hn] at m ⊢;exact q4r K E d l a its m h
  have b2:=qed X (ht.mine Y).1;have T:Y1 P D (y.1::O) (l+1) t way L' R':=by
   rw[hn];exact X.open_ K E d b2 Y (by rw[<-hn];exact i2)
  refine⟨P,y.1::O,B,e1,⟨Z,b0,.inl ⟨rfl,h3,by rw[hn];exact o1,Y⟩,⟨λh=>absurd h b,λ_=>⟨Y,List.mem_cons_self ..,u⟩⟩,?_,?_,T,Nat.le_refl _,rfl,rfl,rfl⟩,?_,J,f,A,u⟩
  ·refine⟨λh1 h2=>?_,λh1=>?_⟩
   ·obtain⟨j1,j2,j3⟩:=hs.shared h1 h2;exact⟨j1,λh=>by
     rcases List.mem_cons.1 h with h|h
     ·exact m h.symm
     ·exact j2 h,j3⟩
   ·obtain⟨j1,j2,j3⟩:=hs.mine h1;exact⟨j1,List.mem_cons_of_mem _ j2,j3⟩
  ·refine⟨λh1 h2=>?_,λh1=>?_⟩
   ·rw[Y] at h1;cases h1
   ·obtain⟨j1,j2,j3⟩:=ht.mine h1;exact⟨j1,List.mem_cons_of_mem _ j2,j3⟩
  ·exact b0.Fp (by rw[M,hn] at *;exact U) F
end
section
variable {D:DM}{S0:Sp}{C0:Ct}{O H H0:List Int}{P:Pl}
theorem qei {R:Int->Nd × Int}{l:Nat}{N:Nd}{A B C:List Zw}(h:N=⟨((l+1:Nat):Int),[],(A++(B++C)).map Qn⟩)(d:∀x∈A,good1 R l x)(e:∀x∈C,good1 R l x):Outside R (l+1) N A.length (A.length+B.length) (A.map (·.2)) (C.map (·.2)):=by
 refine⟨⟨A,?_,rfl,d⟩,⟨C,?_,rfl,e⟩,by rw[h],by rw[List.length_map],by rw[h];unfold Nd.size;simp[Nat.add_assoc],by omega⟩
 ·rw[h,q4u];simp
 ·rw[h,q4u];have b:(A++(B++C)).drop (A.length+B.length)=C:=by
   rw[<-List.append_assoc,<-List.length_append,List.drop_left]
  rw[b,List.take_of_length_le];unfold Nd.size;simp only[List.length_nil,List.length_map,List.length_append];omega
theorem qmj {R R':Int->Nd × Int}{l:Nat}{N:Nd}{M:List (List Qc)}(F:Yr R l N M)(h1:Qr (l:Int)<=M.length)(h2:M.length<=2*Qq (l:Int))(e:Ext R R'){d:List Int}(b:d.length=(pieces N).length)(m:Uu R' (pieces N) d) :
  ∃T:List Zw,List.zipWith Wq (pieces N) d=T.map Qn/\(∀x∈T,good1 R' l x)/\(T.map (·.2)).flatten=M.flatten/\T.map (·.1)=d/\1<=T.length/\T.length<=2:=by
 have G:Qr (l:Int)*2=Qq (l:Int)/\3<=Qr (l:Int):=by unfold Qr Qq;split<;>omega
 rcases q7w F h2 with⟨f,_⟩|⟨I,k2,f,u⟩|⟨I,B,E,rfl,f,u,J,K,Q⟩
 ·rw[f] at h1;simp at h1;omega
 ·rw[f] at b m ⊢;match d,b with
  |[a],_=>
   obtain⟨j1,j2⟩:=m (N.cut 0 M.length,a) (List.mem_singleton.2 rfl);obtain⟨y,A⟩:=q3q u h1 e j1 j2;refine⟨[(a,M.flatten)],?_,λx p=>?_,by simp,rfl,by simp,by simp⟩
   ·show [Wq _ a]=_;rw[A];rfl
   ·rw[List.mem_singleton.1 p];exact y
  |[],b=>cases b
  |_::_::_,b=>cases b
 ·rw[f] at b m ⊢;match d,b with
  |[a1,a2],_=>
   obtain⟨U,X⟩:=m (_,a1) (List.mem_cons_self ..);obtain⟨W,Y⟩:=m (_,a2) (List.mem_cons_of_mem _ (List.mem_singleton.2 rfl));obtain⟨y,A⟩:=q3q u K e U X;obtain⟨Z,u2⟩:=q3q J Q e W Y;refine⟨[(a1,B.flatten),(a2,E.flatten)],?_,λx p=>?_,by simp,rfl,by simp,by simp⟩
   ·show [Wq _ a1,Wq _ a2]=_;rw[A,u2];rfl
   ·rcases List.mem_cons.1 p with rfl|p
    ·exact y
    ·rw[List.mem_singleton.1 p];exact Z
  |[],b=>cases b
  |[_],b=>cases b
  |_::_::_::_,b=>cases b
structure Since (D:DM)(O O' H0:List Int)(P P':Pl)(k:Nat):Prop where
 old:∀l a t,a∈H0->Qp (P.hide D O) l a t->Qp (P'.hide D O') l a t
 free:P.C.free<=P'.C.free+k
 n:P'.C.n=P.C.n
theorem Since.trans {O' O'':List Int}{P' P'':Pl}{k k':Nat}(h:Since D O O' H0 P P' k)(h2:Since D O' O'' H0 P' P'' k'):Since D O O'' H0 P P'' (k+k'):=
 ⟨λl a t b d=>h2.old l a t b (h.old l a t b d),by have:=h.free;have:=h2.free;omega,h2.n.trans h.n⟩
theorem Since.fin {O':List Int}{P' P'':Pl}{k k':Nat}{r:Int}{its:List Qc}(h:Since D O O' H0 P P' k)(f:Qaj D S0 C0 O' H0 P' P'' r its k'):Qaj D S0 C0 O H0 P P'' r its (k+k'):=
 ⟨f.keep,f.tree,λl a t b d=>f.old l a t b (h.old l a t b d),by have:=h.free;have:=f.free;omega,f.n.trans h.n⟩
theorem q7x {b:List Int}{P':Pl}{l:Int}{k:Nat}(m:Move l D O b P P' k)(H0:List Int):Since D O b H0 P P' k:=⟨λ_ _ _ _ d=>P9 m.ext d,m.free,m.n⟩
structure Ei (D:DM)(S0:Sp)(C0:Ct)(O H H0:List Int)(P:Pl)(l:Nat)(s:Qu)(way:List Qu)(L Rr:List Qc)(i j:Nat)(come:Nd)(ML Mc MR:List (List Qc)):Prop where
 keep:Keep D S0 C0 O H P
 spot:Zv P D O (l:Int) s
 up:Y1 P D O l s way L Rr
 out:Outside (P.hide D O) l s.N i j ML MR
 Sr:Yr (P.hide D O) l come Mc
 gone:s.shared=false->l=0->(s.N.cut i j).named=[]
 held:∀a:Nat,0<a->a<P.C.n->H.count (a:Int)=(own s++((if s.shared=true then [] else (Zx s i j).named)++(come.named++Zu way H0))).count (a:Int)
 opens:∀y∈O,(s.shared=false/\y=s.addr)\/∃t∈way,t.shared=false/\y=t.addr
 rise:Qd (L++((ML++(Mc++MR)).flatten++Rr))
 fine:∀x∈L++((ML++(Mc++MR)).flatten++Rr),Ze x
 few:(L++((ML++(Mc++MR)).flatten++Rr)).length<=1000
 H0s:H0.length<=10000
 most:(ML++(Mc++MR)).length<=Qq (l:Int)+1
 least:way≠[]->Qr (l:Int)<=(ML++(Mc++MR)).length+1
 one:0<l->1<=(ML++(Mc++MR)).length
 high:l+way.length<=7
theorem qap:∀{way:List Qu} {l:Nat} {s:Qu} {L Rr:List Qc},Y1 P D O l s way L Rr->(Zu way H0).length<=H0.length+14*way.length
 |[],l,s,L,Rr,_=>by show H0.length<=_;omega
 |t::way,l,s,L,Rr,h=>by
  obtain⟨f,m,x,B,E,d,y,F,G,A,I,J,K,M,e,p,u⟩:=h;have T:=qap e;have b:=(Py A (by rw[d];show ¬((l+1:Nat):Int)=0;omega)).2.2.2.2.1;rw[d] at b;have b:((f++x::m).map Qn).length<=12:=b;simp only[List.length_map,List.length_append,List.length_cons] at b;have Q:(own t).length<=1:=by unfold own;split<;>simp
  have R:(if t.shared=true then [] else (Zx t t.next (t.next+1)).named).length<=12:=by
   split
   ·simp
   ·rw[q2i d y,List.length_append,List.length_map,List.length_map];omega
  show (own t++((if t.shared=true then [] else (Zx t t.next (t.next+1)).named)++Zu way H0)).length<=_;rw[List.length_append,List.length_append,List.length_cons];omega
theorem qq2 {R:Int->Nd × Int}{l:Nat}{s:Qu}{e f m:List (List Qc)}{b:Nd}{i j:Nat}(h:Outside R l s.N i j e f)(A:Yr R l b m)(p:∀x∈(e++(m++f)).flatten,Ko x=none)(a:Int):(Ye s i j b).named.count a=(Zx s i j).named.count a+b.named.count a:=by
 have u:∀x∈(e++f).flatten,Ko x=none:=λx d=>p x (by
  simp only[List.flatten_append,List.mem_append] at d ⊢;rcases d with h|h
  ·exact .inl h
  ·exact .inr (.inr h))
 have y:∀x∈m.flatten,Ko x=none:=λx d=>p x (by
  simp only[List.flatten_append,List.mem_append];exact .inr (.inl d))
 rw[(O7 (qpo h A) p).1,(O7 (q94 h) u).1,(O7 A y).1];unfold Ye Zx Jd;simp only[List.flatMap_cons,List.flatMap_nil,List.append_nil,List.map_append,List.count_append];omega
theorem qcq {l:Nat}{s:Qu}{way:List Qu}{L Rr:List Qc}{i j:Nat}{d:Nd}{u A y:List (List Qc)}(h:Ei D S0 C0 O H H0 P l s way L Rr i j d u A y) :
  ∃e,P.Qx s i j=some e/\Keep D S0 C0 O (own s++((Ye s i j d).named++Zu way H0)) e/\Yr (e.hide D O) l (Ye s i j d) (u++(A++y))/\Zv e D O (l:Int) s/\Y1 e D O l s way L Rr/\Since D O O H0 P e 0/\Ext (P.hide D O) (e.hide D O):=by
 have b:∀x∈(u++(A++y)).flatten,Ko x=none:=λx f=>(h.fine x (List.mem_append_right _ (List.mem_append_left _ f))).2.2
 have p:∀x∈(u++y).flatten,Ko x=none:=λx f=>b x (by
  simp only[List.flatten_append,List.mem_append] at f ⊢;rcases f with h|h
  ·exact .inl h
  ·exact .inr (.inr h))
 have F:∀x∈A.flatten,Ko x=none:=λx f=>b x (by
  simp only[List.flatten_append,List.mem_append];exact .inr (.inl f))
 have K:Qq (l:Int)<=12:=by unfold Qq;split<;>omega
 have G:=h.most;simp only[List.length_append] at G;have E:=h.keep.perm λa h1 h2=>(h.held a h1 h2).symm
 have M:=(O7 (q94 h.out) p).2.2;have Q:=(O7 h.Sr F).2.2;have R:=qap (H0:=H0) h.up;have T:(own s).length<=1:=by unfold own;split<;>simp
 have U:=h.high;have W:=h.H0s;rw[List.length_append] at M;obtain⟨e,J,I,m⟩:=q8m E h.out p h.gone (by omega) (by
  have X:(if s.shared=true then [] else (Zx s i j).named).length<=(Zx s i j).named.length:=by
   split
   ·exact Nat.zero_le _
   ·exact Nat.le_refl _
  rw[List.length_append,List.length_append,List.length_append];omega)
 refine⟨e,J,I.perm λa _ _=>?_,qe7 (qpo h.out h.Sr) (m 0).ext,h.spot.above E (m ((l:Int)-1)).above (by omega),h.up.ext E (m (l:Int)).ext (m (l:Int)).above (Nat.le_refl _),q7x (m 0) H0,(m 0).ext⟩;simp only[List.count_append,qq2 h.out h.Sr b];by_cases B:s.shared=true
 ·rw[if_pos B,if_pos B];simp only[List.count_nil];omega
 ·rw[if_neg B,if_neg B];simp only[List.count_nil];omega
theorem qkd (K:Keep D S0 C0 O H P){l:Nat}{t:Qu}{way:List Qu}{L' R':List Qc}{N:Nd}{M:List (List Qc)}{olds:List Qu}{A B C:List Zw}
  (hb:Yr (P.hide D O) l N M) (h1:Qr (l:Int)<=M.length) (h2:M.length<=2*Qq (l:Int)) (hs:∀s∈olds,Zv P D O (l:Int) s) (hd:olds.Pairwise λs o=>o.held=true\/o.addr≠s.addr)
  (hG:t.N=⟨((l+1:Nat):Int),[],(A++(B++C)).map Qn⟩) (hA:∀x∈A,good1 (P.hide D O) l x) (hC:∀x∈C,good1 (P.hide D O) l x) (ht:Zv P D O ((l+1:Nat):Int) t) (b1:Y1 P D O (l+1) t way L' R')
  (hH:∀a:Nat,0<a->a<P.C.n->H.count (a:Int)=(olds.flatMap own++(N.named++(own t++((if t.shared=true then [] else A.map (·.1)++C.map (·.1))++Zu way H0)))).count (a:Int))
  (hO:∀y∈O,(∃s∈olds,s.shared=false/\y=s.addr)\/(t.shared=false/\y=t.addr)\/∃t'∈way,t'.shared=false/\y=t'.addr)
  (hB:1<=B.length/\B.length<=2) (hm:A.length+B.length+C.length<=12) (b3:2<=A.length+B.length+C.length) (a8:way≠[]->6<=A.length+B.length+C.length)
  (hr:Qd ((L'++rowOf A)++(M.flatten++(rowOf C++R')))) (hf:∀x∈(L'++rowOf A)++(M.flatten++(rowOf C++R')),Ze x) (Z:((L'++rowOf A)++(M.flatten++(rowOf C++R'))).length<=1000) (a2:H0.length<=10000) (hi:l+1+way.length<=7) :
  (∃d ks I H3 Mc,P.Y7 ⟨N,olds,A.length,A.length+B.length⟩=some (d,some ks)/\Ei D S0 C0 I H3 H0 d (l+1) t way L' R' A.length (A.length+B.length) ⟨N.lvl+1,[],ks⟩ (A.map (·.2)) Mc (C.map (·.2))/\Since D O I H0 P d 2/\
   L'++((A.map (·.2)++(Mc++C.map (·.2))).flatten++R')=(L'++rowOf A)++(M.flatten++(rowOf C++R')))\/(∃d,P.Y7 ⟨N,olds,A.length,A.length+B.length⟩=some (d,none)/\P.C.free<2):=by
 have b2:Qr (l:Int)*2=Qq (l:Int)/\3<=Qr (l:Int):=by unfold Qr Qq;split<;>omega
 have f:∀x∈M.flatten,Ze x:=λx m=>hf x (List.mem_append_right _ (List.mem_append_left _ m))
 have F:Qd M.flatten:=(Nc (Nc hr).2).1;have Q:∀x∈M.flatten,Ko x=none:=λx m=>(f x m).2.2
 have b0:=q8p hb Q h2;have a1:=q7w hb h2;have R:∀p∈pieces N,Fits (P.hide D O) p:=λp E=>by
  rcases a1 with⟨_,e⟩|⟨k1,k2,e,X⟩|⟨k1,M1,M2,rfl,e,X,k4,k5,k6⟩
  ·rw[e] at E;cases E
  ·rw[e,List.mem_singleton] at E;rw[E];exact X.fits (by omega) (λ_=>by omega) F f
  ·rw[List.flatten_append] at F f;rw[e] at E;rcases List.mem_cons.1 E with rfl|E
   ·exact X.fits (by omega) (λ_=>by omega) (Nc F).1 λx m=>f x (List.mem_append_left _ m)
   ·rw[List.mem_singleton] at E;rw[E];exact k4.fits (by omega) (λ_=>by omega) (Nc F).2 λx m=>f x (List.mem_append_right _ m)
 have W:(pieces N).length<=2:=by
  rcases a1 with⟨_,e⟩|⟨k1,k2,e,X⟩|⟨k1,M1,M2,_,e,X,k4,k5,k6⟩<;>rw[e]<;>simp
 rcases qk7 (l:=(l:Int)) K ⟨N,olds,A.length,A.length+B.length⟩ (own t++((if t.shared=true then [] else A.map (·.1)++C.map (·.1))++Zu way H0)) hs hd R (λa h1 h2=>by
   rw[hH a h1 h2,b0]) with⟨d,I,az,Y,J,K3,G,gO,gl⟩|⟨d,Y,J⟩
 ·left
  have Y:az.length=(pieces N).length:=Y;have gl:Uu (d.hide D I) (pieces N) az:=gl;have G:Move (l:Int) D O I P d (pieces N).length:=G;obtain⟨T,t1,t2,t3,t4,t5,t6⟩:=qmj hb h1 h2 G.ext Y gl;have J:P.Y7 ⟨N,olds,A.length,A.length+B.length⟩=some (d,some (List.zipWith Wq (pieces N) az)):=J;rw[t1] at J;have a6:=q4s hb;have eN:(⟨N.lvl+1,[],T.map Qn⟩:Nd)=⟨((l+1:Nat):Int),[],T.map Qn⟩:=by rw[a6];rfl
  have b:L'++((A.map (·.2)++(T.map (·.2)++C.map (·.2))).flatten++R')=(L'++rowOf A)++(M.flatten++(rowOf C++R')):=by
   rw[List.flatten_append,List.flatten_append,t3];unfold rowOf;simp only[List.append_assoc]
  have a7:Move (l:Int) D O I P d 2:=G.more W;have U:Qq ((l+1:Nat):Int)=12:=if_neg (by omega);have u:Qr ((l+1:Nat):Int)=6:=if_neg (by omega);refine⟨d,_,I,az++(own t++((if t.shared=true then [] else A.map (·.1)++C.map (·.1))++Zu way H0)),T.map (·.2),J,?_,q7x a7 H0,b⟩;rw[eN];refine⟨K3,ht.above K G.above (by omega),b1.ext K G.ext G.above (by omega),qei hG (λx m=>q3m (hA x m) G.ext) (λx m=>q3m (hC x m) G.ext),⟨T,rfl,rfl,t2⟩,λ_ h=>(by omega),λa _ _=>?_,λy hy=>?_,by rw[b];exact hr,by rw[b];exact hf,by rw[b];exact Z,a2,?_,λhw=>?_,λ_=>?_,hi⟩
  ·have e1:(Zx t A.length (A.length+B.length)).named=A.map (·.1)++C.map (·.1):=by
    rw[q7v hG,q1j,List.take_left,<-List.append_assoc,<-List.length_append,List.drop_left,List.map_append]
   rw[e1,q1j,t4];simp only[List.count_append];split<;>simp only[List.count_append,List.count_nil]<;>omega
  ·obtain⟨j1,j2⟩:=gO y hy;rcases hO y j1 with⟨s,k1,k2,X⟩|h|h
   ·exact absurd X (j2 s k1 k2)
   ·exact .inl h
   ·exact .inr h
  ·rw[U];simp only[List.length_append,List.length_map];omega
  ·rw[u];have:=a8 hw;simp only[List.length_append,List.length_map];omega
  ·simp only[List.length_append,List.length_map];omega
 ·right
  have J:P.C.free<(pieces N).length:=J;exact⟨d,Y,by omega⟩
end
