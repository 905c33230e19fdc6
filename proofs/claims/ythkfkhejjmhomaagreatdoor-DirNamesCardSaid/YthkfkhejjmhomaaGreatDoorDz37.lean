/- The root is laid down anew; a neighbour is read -/
import Derived.Test.YthkfkhejjmhomaaGreatDoorDz36
namespace Go.Proofs.YthkfkhejjmhomaaGreatDoor
open Go Go.RowKit Go.Proofs
theorem Qwd {R:Int->Nd × Int}{l:Nat}{N:Nd}{M:List (List Qq)}(h:U7 R l N M):N.cut 0 M.length=N/\∀m,m<=M.length->(N.cut 0 m).named++(N.cut m M.length).named=N.named:=by
 cases l with
 |zero=>
  obtain⟨its,rfl,rfl⟩:=h;rw[List.length_map];have e:∀i j,(⟨0,its,[]⟩:Nd).cut i j=⟨0,(its.drop i).take (j-i),[]⟩:=λi j=>if_pos rfl
  refine⟨by rw[e,List.drop_zero,Nat.sub_zero,List.take_length],λm hm=>?_⟩;rw[e,e];unfold Nd.named;simp only[List.map_nil,List.nil_append,List.drop_zero,Nat.sub_zero];rw[<-List.filterMap_append,List.take_of_length_le (l:=its.drop m) (by rw[List.length_drop];omega),List.take_append_drop]
 |succ l=>
  obtain⟨G,rfl,rfl,d⟩:=h;rw[List.length_map];refine⟨by rw[Po,List.drop_zero,Nat.sub_zero,List.take_length],λm hm=>?_⟩;rw[Po,Po,Na,Na,Na,List.drop_zero,Nat.sub_zero,List.take_of_length_le (l:=G.drop m) (by rw[List.length_drop];omega),<-List.map_append,List.take_append_drop]
theorem Qfs {R:Int->Nd × Int}{l:Nat}{N:Nd}{M:List (List Qq)}(h:U7 R l N M)(h2:M.length<=2*Iw (l:Int)):(pieces N).flatMap Nd.named=N.named:=by
 obtain⟨d,e⟩:=Qwd h;by_cases h0:M.length=0
 ·rw[Qhg h h0,List.flatMap_nil]
  cases l with
  |zero=>
   obtain⟨its,rfl,rfl⟩:=h;rw[List.length_map] at h0;obtain rfl:=List.eq_nil_of_length_eq_zero h0;rfl
  |succ l=>
   obtain⟨G,rfl,rfl,f⟩:=h;rw[List.length_map] at h0;obtain rfl:=List.eq_nil_of_length_eq_zero h0;rfl
 ·by_cases h1:M.length<=Iw (l:Int)
  ·rw[Qjj h (by omega) h1,List.flatMap_cons,List.flatMap_nil,List.append_nil,d]
  ·rw[Qjk h (by omega) h2,List.flatMap_cons,List.flatMap_cons,List.flatMap_nil,List.append_nil,e _ (by omega)]
structure Piece (R:Int->Nd × Int)(l:Nat)(p:Nd)(Mp:List (List Qq)):Prop where
 bun:U7 R l p Mp
 one:1<=Mp.length
 most:Mp.length<=Iw (l:Int)
theorem Qer {R:Int->Nd × Int}{l:Nat}{N:Nd}{M:List (List Qq)}(h:U7 R l N M)(h2:M.length<=2*Iw (l:Int)) :
  (M=[]/\pieces N=[])\/(1<=M.length/\M.length<=Iw (l:Int)/\pieces N=[N.cut 0 M.length]/\Piece R l (N.cut 0 M.length) M)\/
   (Iw (l:Int)<M.length/\∃d e,M=d++e/\pieces N=[N.cut 0 (M.length / 2),N.cut (M.length / 2) M.length]/\Piece R l (N.cut 0 (M.length / 2)) d/\Piece R l (N.cut (M.length / 2) M.length) e/\Iy (l:Int)<=d.length/\Iy (l:Int)<=e.length):=by
 have f:Iy (l:Int)*2=Iw (l:Int)/\3<=Iy (l:Int):=by unfold Iy Iw;split<;>omega
 by_cases h0:M.length=0
 ·exact .inl ⟨List.eq_nil_of_length_eq_zero h0,Qhg h h0⟩
 ·by_cases h1:M.length<=Iw (l:Int)
  ·refine .inr (.inl ⟨by omega,h1,Qjj h (by omega) h1,?_,by omega,h1⟩);have:=Qe4 h 0 M.length;rw[List.drop_zero,Nat.sub_zero,List.take_length] at this;exact this
  ·refine .inr (.inr ⟨by omega,M.take (M.length / 2),M.drop (M.length / 2),(List.take_append_drop _ _).symm,Qjk h (by omega) h2,⟨?_,?_,?_⟩,⟨?_,?_,?_⟩,?_,?_⟩)
   ·have:=Qe4 h 0 (M.length / 2);rw[List.drop_zero,Nat.sub_zero] at this;exact this
   ·rw[List.length_take];omega
   ·rw[List.length_take];omega
   ·have:=Qe4 h (M.length / 2) M.length;rw[List.take_of_length_le (by rw[List.length_drop];omega)] at this;exact this
   ·rw[List.length_drop];omega
   ·rw[List.length_drop];omega
   ·rw[List.length_take];omega
   ·rw[List.length_drop];omega
section
variable {D:DM}{S0:Sp}{C0:Ct}{O H:List Int}{P:Pl}
theorem Piece.fits {R:Int->Nd × Int}{l:Nat}{p:Nd}{Mp:List (List Qq)}(h:Piece R l p Mp)(hl:l<8)(h2:0<l->2<=Mp.length)(hr:Zt Mp.flatten)(hf:∀x∈Mp.flatten,Nj x)(hd:∀x∈Mp.flatten,Dat R x):Fits R p:=
 Qns h.bun hd (Qtj h.bun hl h.one h2 h.most hr hf)
theorem piece_ne {R:Int->Nd × Int}{l:Nat}{p:Nd}{d:List (List Qq)}(h:Piece R l p d):d≠[]:=λe=>by
 have:=h.one;rw[e] at this;exact absurd this (by decide)
theorem Qay {R R':Int->Nd × Int}{l:Nat}{p:Nd}{d:List (List Qq)}(h:Piece R l p d)(g:Iy (l:Int)<=d.length)(e:Ext R R'){a:Int}(f:R' a=(p,0))(h1:1<=a/\a<2048):good1 R' l (a,d.flatten)/\Qax p a=Qy (a,d.flatten):=by
 refine⟨⟨Qgc h.bun (piece_ne h) e f,by rw[f];exact (Qaq h.bun).2 g,h1⟩,?_⟩;unfold Qax Qy;rw[Quo h.bun (piece_ne h)]
structure Aw (D:DM)(S0:Sp)(C0:Ct)(O H0:List Int)(P P':Pl)(root:Int)(its:List Qq)(k:Nat):Prop where
 keep:Keep D S0 C0 [] ((if root=0 then [] else [root])++H0) P'
 tree:(its=[]/\root=0)\/∃l,l<=6/\Qe (P'.hide D []) l root its/\1<=root/\root<2048
 old:∀l a t,a∈H0->Qe (P.hide D O) l a t->Qe (P'.hide D []) l a t
 free:P.C.free<=P'.C.free+k
 n:P'.C.n=P.C.n
theorem Qpe {R:Int->Nd × Int}(d:∀l y,good1 R l y->3*6 ^ l<=y.2.length){l:Nat}:∀(G:List Zv),(∀y∈G,good1 R l y)->G.length*(3*6 ^ l)<=(G.map (·.2)).flatten.length
 |[],_=>by simp
 |y::G,h=>by
  have h1:=d l y (h y (List.mem_cons_self ..));have h2:=Qpe d G λz e=>h z (List.mem_cons_of_mem _ e)
  rw[List.map_cons,List.flatten_cons,List.length_append,List.length_cons,Nat.add_mul,Nat.one_mul];omega
theorem Keep.Qxv (K:Keep D S0 C0 O H P){l:Nat}{N:Nd}{M:List (List Qq)}(h:U7 (P.hide D O) (l+1) N M)(h2:2<=M.length)(hlen:M.flatten.length<=1000):l<=2:=by
 obtain⟨G,rfl,rfl,d⟩:=h;have f:=Qpe (λl y e=>K.long l y e) G d;rw[List.length_map] at h2;have g:2*(3*6 ^ l)<=G.length*(3*6 ^ l):=Nat.mul_le_mul_right _ h2;refine Classical.byContradiction λp=>?_
 have m:6 ^ 3<=6 ^ l:=Nat.pow_le_pow_right (by omega) (by omega);omega
theorem Lr {a b:List Qq}(h:Zt (a++b)):Zt a/\Zt b:=⟨(List.pairwise_append.1 h).1,(List.pairwise_append.1 h).2.1⟩
theorem Zbc (K:Keep D S0 C0 O H P){l:Nat}{s:Zz}{b:Nd}{M:List (List Qq)}(T:U7 (P.hide D O) l b M)(hs:Zh P D O (l:Int) s){H0:List Int}(Z:∀a:Nat,0<a->a<P.C.n->H.count (a:Int)=(own s++(b.named++H0)).count (a:Int))
  (hr:Zt M.flatten) (hf:∀x∈M.flatten,Nj x) (d:∀x∈M.flatten,Dat (P.hide D O) x) (hl:l<8) (a6:M.flatten.length<=1000) (b7:M.length<=Iw (l:Int)+1) (b1:0<l->1<=M.length) (hO:∀y∈O,s.shared=false/\y=s.addr) :
  (∃P' r,P.top s b=some (P',some r)/\Aw D S0 C0 O H0 P P' r M.flatten 3)\/(∃P',P.top s b=some (P',none)/\P.C.free<3):=by
 have b6:Iy (l:Int)*2=Iw (l:Int)/\3<=Iy (l:Int):=by unfold Iy Iw;split<;>omega
 unfold Pl.top;by_cases h1:b.kids.length=1
 ·left
  rw[if_pos h1]
  cases l with
  |zero=>
   obtain⟨its,rfl,_⟩:=T;exact absurd h1 (by simp)
  |succ l=>
   obtain⟨G,rfl,rfl,hg⟩:=T;match G,h1,hg,Z with
   |[x],_,hg,Z=>
    obtain⟨X,k2,B⟩:=hg x (List.mem_singleton.2 rfl);have e:(⟨((l+1:Nat):Int),[],[x].map Qy⟩:Nd).named=[x.1]:=Na l [x];rw[e] at Z;obtain⟨u,e1,J,q,_⟩:=Qix K hs Z;have R:Qkn O s=[]:=List.eq_nil_iff_forall_not_mem.2 λy hy=>by
     obtain⟨j1,j2⟩:=Qpq hy;obtain⟨j3,j4⟩:=hO y j1;exact j2 j3 j4
    rw[R] at J q;rw[e1];refine⟨u,x.1,rfl,?_,.inr ⟨l,by omega,?_,B⟩,λl a t _ ht=>Dl q.ext ht,by have:=q.free;omega,q.n⟩
    ·rw[if_neg (by omega)];exact J
    ·have:([x].map (·.2)).flatten=x.2:=by simp
     rw[this];exact Dl q.ext X
   |[],h1,_,_=>simp at h1
   |_::_::_,h1,_,_=>simp at h1
 ·rw[if_neg h1];have Y:M.length<=2*Iw (l:Int):=by omega
  have a7:0<l->2<=M.length:=λa8=>by
   have:=b1 a8;refine Classical.byContradiction λhc=>h1 ?_
   cases l with
   |zero=>omega
   |succ l=>
    obtain⟨G,rfl,rfl,hg⟩:=T;rw[List.length_map] at this hc ⊢;omega
  have b5:l<=3:=by
   cases l with
   |zero=>omega
   |succ l=>have:=K.Qxv T (a7 (by omega)) a6;omega
  have b2:=Qfs T Y;have W:=Qer T Y;have U:∀p∈pieces b,Fits (P.hide D O) p:=λp z=>by
   rcases W with⟨_,e⟩|⟨X,k2,e,B⟩|⟨X,g,m,rfl,e,B,k4,k5,k6⟩
   ·rw[e] at z;cases z
   ·rw[e,List.mem_singleton] at z;rw[z];exact B.fits hl a7 hr hf d
   ·rw[List.flatten_append] at hr hf d;rw[e] at z;rcases List.mem_cons.1 z with rfl|z
    ·exact B.fits hl (λ_=>by omega) (Lr hr).1 (λx A=>hf x (List.mem_append_left _ A)) λx A=>d x (List.mem_append_left _ A)
    ·rw[List.mem_singleton] at z;rw[z];exact k4.fits hl (λ_=>by omega) (Lr hr).2 (λx A=>hf x (List.mem_append_right _ A)) λx A=>d x (List.mem_append_right _ A)
  have b3:(pieces b).length<=2:=by
   rcases W with⟨_,e⟩|⟨X,k2,e,B⟩|⟨X,g,m,_,e,B,k4,k5,k6⟩<;>rw[e]<;>simp
  rcases Qo9 (l:=(l:Int)) K ⟨b,[s],0,0⟩ H0 (λs' b4=>by rw[List.mem_singleton.1 b4];exact hs) (List.pairwise_singleton _ _) U (λa h1 h2=>by
    rw[Z a h1 h2,b2,List.flatMap_cons,List.flatMap_nil,List.append_nil]) with⟨u,O1,az,f,g2,J,q,gO,Q⟩|⟨u,f,g2⟩
  ·have R:O1=[]:=List.eq_nil_iff_forall_not_mem.2 λy hy=>by
    obtain⟨j1,j2⟩:=gO y hy;obtain⟨j3,j4⟩:=hO y j1;exact j2 s (List.mem_singleton.2 rfl) j3 j4
   subst R;rw[g2];dsimp only;have F:∀l a t,a∈H0->Qe (P.hide D O) l a t->Qe (u.hide D []) l a t:=λl a t _ ht=>Dl q.ext ht
   have V:=q.free;have f:az.length=(pieces b).length:=f;have Q:Qd6 (u.hide D []) (pieces b) az:=Q;have b8:P.C.free<=u.C.free+(pieces b).length:=V;rcases W with⟨hM,e⟩|⟨X,k2,e,B⟩|⟨X,g,m,rfl,e,B,k4,k5,k6⟩
   ·left
    rw[e] at f ⊢;obtain rfl:az=[]:=List.eq_nil_of_length_eq_zero (by rw[f];rfl);refine⟨u,0,rfl,?_,.inl ⟨by rw[hM];rfl,rfl⟩,F,by omega,q.n⟩;rw[if_pos rfl];exact J
   ·left
    rw[e] at f Q ⊢;match az,f with
    |[a],_=>
     obtain⟨j1,j2⟩:=Q (b.cut 0 M.length,a) (List.mem_singleton.2 rfl);refine⟨u,a,rfl,?_,.inr ⟨l,by omega,Qgc B.bun (piece_ne B) q.ext j1,j2⟩,F,by omega,q.n⟩;rw[if_neg (by have:1<=a:=j2.1;omega)];exact J
    |[],f=>cases f
    |_::_::_,f=>cases f
   ·rw[e] at f Q ⊢;match az,f,J with
    |[a1,a2],_,J=>
     obtain⟨p1,q1⟩:=Q (_,a1) (List.mem_cons_self ..);obtain⟨p2,q2⟩:=Q (_,a2) (List.mem_cons_of_mem _ (List.mem_singleton.2 rfl));obtain⟨t1,u1⟩:=Qay B k5 q.ext p1 q1;obtain⟨t2,u2⟩:=Qay k4 k6 q.ext p2 q2;have ek:List.zipWith Qax [b.cut 0 ((g++m).length / 2),b.cut ((g++m).length / 2) (g++m).length] [a1,a2]=[(a1,g.flatten),(a2,m.flatten)].map Qy:=by
      show [Qax _ a1,Qax _ a2]=_;rw[u1,u2];rfl
     rw[ek];have b0:=Qa1 T;have eN:(⟨b.lvl+1,[],[(a1,g.flatten),(a2,m.flatten)].map Qy⟩:Nd)=⟨((l+1:Nat):Int),[],[(a1,g.flatten),(a2,m.flatten)].map Qy⟩:=by rw[b0];rfl
     rw[eN];have hB:U7 (u.hide D []) (l+1) ⟨((l+1:Nat):Int),[],[(a1,g.flatten),(a2,m.flatten)].map Qy⟩ [g.flatten,m.flatten]:=⟨_,rfl,rfl,λx A=>by
      rcases List.mem_cons.1 A with rfl|A
      ·exact t1
      ·rw[List.mem_singleton.1 A];exact t2⟩
     have I:[g.flatten,m.flatten].flatten=(g++m).flatten:=by simp
     have hF:Fits (u.hide D []) ⟨((l+1:Nat):Int),[],[(a1,g.flatten),(a2,m.flatten)].map Qy⟩:=
      Qns hB (by rw[I];exact λx A=>(d x A).ext q.ext) (Qtj hB (by omega) (by simp) (λ_=>by simp) (by have:Iw ((l+1:Nat):Int)=12:=if_neg (by omega);rw[this];simp) (by rw[I];exact hr) (by rw[I];exact hf))
     have E:([(a1,g.flatten),(a2,m.flatten)].map Qy).length=2:=rfl;rw[if_neg (by rw[E];decide),if_neg (by rw[E];decide)]
     cases z:u.C.pick with
     |none=>
      right
      have he:u.Xo ⟨((l+1:Nat):Int),[],[(a1,g.flatten),(a2,m.flatten)].map Qy⟩=6:=by unfold Pl.Xo;rw[if_pos hF.may];exact (Ct.Qb1 z).1
      rw[if_neg (by rw[he];decide),if_pos he];refine⟨_,rfl,?_⟩;have:=Ct.Z8 z;omega
     |some c=>
      left
      obtain⟨e0,eV,K2,hN,mv,c1,c2⟩:=J.put (H0:=H0) z hF (λa _ _=>by
       rw[Na,List.count_append];rfl)
      rw[if_pos e0,eV];have h3:=Qgc hB (by simp) (mv 0).ext hN;rw[I] at h3;have b9:=(mv 0).free;refine⟨_,_,rfl,?_,.inr ⟨l+1,by omega,h3,by omega,by omega⟩,λl a t ha ht=>Dl (mv 0).ext (F l a t ha ht),by omega,(mv 0).n.trans q.n⟩;rw[if_neg (by omega)];exact K2
    |[],f,_=>cases f
    |[_],f,_=>cases f
    |_::_::_::_,f,_=>cases f
  ·right
   rw[f];exact⟨u,rfl,by have g2:P.C.free<(pieces b).length:=g2;omega⟩
end
section
variable {D:DM}{S0:Sp}{C0:Ct}{O H:List Int}{P:Pl}
theorem Qrq (K:Keep D S0 C0 O H P){c:Nat}(h1:P.C.get (c:Int)=1)(e:(c:Int)∈H){l:Nat}{y:Zv}(d:y.1≠(c:Int))(h:good1 (P.hide D O) l y):good1 (P.hide D ((c:Int)::O)) l y:=
 ⟨open_tree K h1 e l _ _ d h.1,by rw[Oe d];exact h.2.1,h.2.2⟩
theorem Qxw (K:Keep D S0 C0 O H P){c:Nat}(h1:P.C.get (c:Int)=1)(f:(c:Int)∈H){l:Nat}{N:Nd}{M:List (List Qq)}(hn:(c:Int)∉N.kids.map (·.a))(h:U7 (P.hide D O) l N M):U7 (P.hide D ((c:Int)::O)) l N M:=by
 cases l with
 |zero=>exact h
 |succ l=>
  obtain⟨G,rfl,h2,g⟩:=h;refine⟨G,rfl,h2,λx d=>Qrq K h1 f (λe=>hn ?_) (g x d)⟩;rw[<-e];exact List.mem_map.2 ⟨Qy x,List.mem_map_of_mem d,rfl⟩
theorem Zak {R:Int->Nd × Int}{l:Nat}{s:Zz}{M:List (List Qq)}(h:U7 R l s.N M):Ls s 0 0=s.N:=by
 cases l with
 |zero=>
  obtain⟨its,e,_⟩:=h;unfold Ls;rw[e];unfold Wv Nd.cut Nd.size;simp
 |succ l=>
  obtain⟨G,e,_⟩:=h;rw[Qes e,e];simp
structure V6 (D:DM)(O O':List Int)(P P':Pl)(c:Int):Prop where
 tree:∀l a its,a≠c->Qe (P.hide D O) l a its->Qe (P'.hide D O') l a its
 other:∀a,a≠c->(P.hide D O a).2=0->P'.hide D O' a=P.hide D O a
theorem V6.good {O':List Int}{P':Pl}{c:Int}(h:V6 D O O' P P' c){l:Nat}{y:Zv}(hy:y.1≠c)(hg:good1 (P.hide D O) l y):good1 (P'.hide D O') l y:=
 ⟨h.tree l _ _ hy hg.1,by rw[h.other _ hy (Gv hg.1).2.2];exact hg.2.1,hg.2.2⟩
theorem V6.bun {O':List Int}{P':Pl}{c:Int}(h:V6 D O O' P P' c){l:Nat}{N:Nd}{M:List (List Qq)}(hn:c∉N.kids.map (·.a))(hb:U7 (P.hide D O) l N M):U7 (P'.hide D O') l N M:=by
 cases l with
 |zero=>exact hb
 |succ l=>
  obtain⟨G,rfl,h2,f⟩:=hb;refine⟨G,rfl,h2,λx d=>h.good (λe=>hn ?_) (f x d)⟩;rw[<-e];exact List.mem_map.2 ⟨Qy x,List.mem_map_of_mem d,rfl⟩
theorem V6.dat {O':List Int}{P':Pl}{c:Int}(h:V6 D O O' P P' c)(hc:0<=(P.hide D O c).1.lvl){x:Qq}(hx:Dat (P.hide D O) x):Dat (P'.hide D O') x:=λd hd=>by
 have h1:=hx d hd;have f:d≠c:=λe=>by
  rw[<-e,h1] at hc;exact absurd hc (by decide)
 rw[h.other d f (by rw[h1])];exact h1
theorem Qx4 {R:Int->Nd × Int}{l:Nat}{N:Nd}{M:List (List Qq)}(h:U7 R l N M)(i:Nat):(N.cut i i).named=[]:=by
 cases l with
 |zero=>
  obtain⟨its,rfl,rfl⟩:=h;have e:(⟨0,its,[]⟩:Nd).cut i i=⟨0,(its.drop i).take (i-i),[]⟩:=if_pos rfl;rw[e,Nat.sub_self,List.take_zero];rfl
 |succ l=>
  obtain⟨G,rfl,rfl,d⟩:=h;rw[Po,Na,Nat.sub_self,List.take_zero];rfl
theorem Qzx {d:List Int}{P':Pl}{c:Int}(e:Ext (P.hide D O) (P'.hide D d)):V6 D O d P P' c:=⟨λ_ _ _ _ h=>Dl e h,λa _ h=>e a h⟩
theorem Qy5 {t:Zz}{l:Nat}{G:List Zv}(h:t.N=⟨((l+1:Nat):Int),[],G.map Qy⟩){q:Nat}{y:Zv}(f:G[q]?=some y):q<t.N.kids.length/\Ql t.N.kids q=Qy y:=by
 obtain⟨d,e⟩:=List.getElem?_eq_some_iff.1 f;rw[h];refine⟨by show q<(G.map Qy).length;rw[List.length_map];exact d,?_⟩;show Ql (G.map Qy) q=_;rw[Ew d,e]
structure V7 (D:DM)(S0:Sp)(C0:Ct)(O H H0:List Int)(P:Pl)(l:Nat)(t s:Zz)(way:List Zz)(L' R':List Qq)(y:Zv)(nb:Zz)(P':Pl)(O':List Int):Prop where
 keep:Keep D S0 C0 O' (nb.N.named++H) P'
 near:V6 D O O' P P' y.1
 once:(O'=y.1::O/\nb.shared=false/\H.count y.1=1/\t.shared=false)\/(O'=O/\Ext (P.hide D O) (P'.hide D O'))
 Ie:Zh P' D O' (l:Int) nb
 sk:Zh P' D O' (l:Int) s
 tk:Zh P' D O' ((l+1:Nat):Int) t
 up:Wj P' D O' (l+1) t way L' R'
 free:P.C.free<=P'.C.free
 n:P'.C.n=P.C.n
 addr:nb.addr=y.1
 held:nb.held=t.shared
theorem Qwf (K:Keep D S0 C0 O H P){l:Nat}{s t:Zz}{way:List Zz}{L' R':List Qq}{H0:List Int}{G:List Zv}{q:Nat}{y:Zv}(hG:t.N=⟨((l+1:Nat):Int),[],G.map Qy⟩)(hq:G[q]?=some y)(Y:good1 (P.hide D O) l y)
  (ht:Zh P D O ((l+1:Nat):Int) t) (hs:Zh P D O (l:Int) s) (m:y.1≠s.addr) (W:Wj P D O (l+1) t way L' R') (hH:H.length<=20000)
  (b2:t.shared=false->P.C.get y.1=1->y.1∈H/\y.1∉Lh way H0/\y.1≠t.addr) :
  ∃Z O' z,P.near D t q=some Z/\V7 D S0 C0 O H H0 P l t s way L' R' y (P.W9 D t q) Z O'/\U7 (Z.hide D O') l (P.W9 D t q).N z/\z.flatten=y.2/\Iy (l:Int)<=z.length/\z.length<=Iw (l:Int)/\(P.W9 D t q).N.lvl=(l:Int):=by
 obtain⟨k1,k2⟩:=Qy5 hG hq;obtain⟨ho,n,hn,b4,h0⟩:=Fq (Gv Y.1).2.2;obtain⟨B,hE⟩:=Qau Y.1;have p:(P.Qb D y.1).lvl=(l:Int):=by
  have:=(Gv Y.1).2.1;rw[B] at this;exact this
 have a7:(Ql t.N.kids q).a=y.1:=by rw[k2];rfl
 have b5:P.Yc D t q=true:=by
  unfold Pl.Yc;rw[a7];refine decide_eq_true ⟨k1,hE,?_⟩;rw[p,hG];show (l:Int)=((l+1:Nat):Int)-1;omega
 have a1:P.W9 D t q=P.spot D y.1 t.shared:=by unfold Pl.W9;rw[a7]
 obtain⟨z,E,J,hL,b7⟩:=K.bun Y.1;have hN:(P.hide D O y.1).1=P.Qb D y.1:=by rw[B];rfl
 rw[hN] at E;have a2:=Y.2.1;rw[hN] at a2;have u:=(Qnt E (by have:=hL.may;rwa [hN] at this)).1;have g:=(Qaq E).1 a2;have T:P.near D t q=P.X7 (P.spot D y.1 t.shared) 0 0:=by unfold Pl.near;rw[if_pos b5,a1]
 rw[T,a1];have M:(P.spot D y.1 t.shared).N=P.Qb D y.1:=rfl;have Q:∀x∈z.flatten,Dat (P.hide D O) x:=by rw[J];exact K.dat l _ _ Y.1
 have R:((P.Qb D y.1).cut 0 0).named=[]:=Qx4 E 0;have b0:Outside (P.hide D O) l (P.spot D y.1 t.shared).N 0 0 [] z:=by
  have:=Qg5 E (i:=0) (j:=0) (Nat.le_refl _) (Nat.zero_le _);rw[List.take_zero,List.drop_zero] at this;exact this
 have b8:Iw (l:Int)<=12:=by unfold Iw;split<;>omega
 by_cases d:(P.spot D y.1 t.shared).shared=true
 ·obtain⟨Z,e1,I,F⟩:=Qfu K (s:=P.spot D y.1 t.shared) b0 (by simpa using Q) (λh=>by rw[d] at h;cases h) (by simp;omega) hH;rw[if_pos d,Zak (s:=P.spot D y.1 t.shared) E,M] at I;have ha:=(F ((l:Int)-1)).above;refine⟨Z,O,z,e1,⟨I,Qzx (F 0).ext,.inr ⟨rfl,(F 0).ext⟩,?_,hs.above K ha (by omega),ht.above K ha (by omega),W.ext K (F (l:Int)).ext (F (l:Int)).above (by omega),by have:=(F 0).free;omega,(F 0).n,rfl,rfl⟩,Qti E (F 0).ext,J,g,u,p⟩;have b3:Zh P D O (l:Int) (P.spot D y.1 t.shared):=⟨λ_ h2=>⟨by
   have h2:t.shared=false:=h2;have h3:(t.shared||decide (1<P.C.get y.1))=true:=d;rw[h2,Bool.false_or] at h3;have:=of_decide_eq_true h3;show 2<=P.C.get y.1;omega,ho,p⟩,λh=>by rw[d] at h;cases h⟩
  exact b3.above K ha (by omega)
 ·have h3:(t.shared||decide (1<P.C.get y.1))=false:=by
   cases e:(t.shared||decide (1<P.C.get y.1)) with
   |false=>rfl
   |true=>exact absurd e d
  obtain⟨X,h5⟩:=Bool.or_eq_false_iff.1 h3;have h5:=of_decide_eq_false h5;have a6:P.C.get y.1=1:=by
   have:=K.nonneg y.1;rw[hn] at h5 this ⊢;omega
  obtain⟨i1,i2,i3⟩:=b2 X a6;have e1:P.X7 (P.spot D y.1 t.shared) 0 0=some P:=by
   unfold Pl.X7;rw[if_neg d];split
   ·rfl
   ·rw[M,R];rfl
  have A:P.C.get (n:Int)=1:=by rw[<-hn];exact a6
  have f:(n:Int)∈H:=by rw[<-hn];exact i1
  have b6:(n:Int)∉O:=by rw[<-hn];exact ho
  have I:=K.open_ A f b6;obtain⟨o1,o2⟩:=K.once A f;rw[<-hn,B] at I;have I:Keep D S0 C0 (y.1::O) ((P.Qb D y.1).named++H) P:=I;have V:(n:Int)∉(P.Qb D y.1).kids.map (·.a):=λh=>o2 n b4 (by
   rw[<-hn,B];rw[<-hn] at h;exact List.mem_append_left _ h)
  have a8:V6 D O (y.1::O) P P y.1:=by
   refine⟨λl a its m h=>?_,λa m h=>Oe m⟩;rw[hn] at m ⊢;exact open_tree K A f l a its m h
  have b1:=Qf5 W (ht.mine X).1;have U:Wj P D (y.1::O) (l+1) t way L' R':=by
   rw[hn];exact W.open_ K A f b1 X (by rw[<-hn];exact i2)
  refine⟨P,y.1::O,z,e1,⟨I,a8,.inl ⟨rfl,h3,by rw[hn];exact o1,X⟩,⟨λh=>absurd h d,λ_=>⟨X,List.mem_cons_self ..,p,hE⟩⟩,?_,?_,U,Nat.le_refl _,rfl,rfl,rfl⟩,?_,J,g,u,p⟩
  ·refine⟨λh1 h2=>?_,λh1=>?_⟩
   ·obtain⟨j1,j2,j3⟩:=hs.shared h1 h2;exact⟨j1,λh=>by
     rcases List.mem_cons.1 h with h|h
     ·exact m h.symm
     ·exact j2 h,j3⟩
   ·obtain⟨j1,j2,j3,j4⟩:=hs.mine h1;exact⟨j1,List.mem_cons_of_mem _ j2,j3,j4⟩
  ·refine⟨λh1 h2=>?_,λh1=>?_⟩
   ·rw[X] at h1;cases h1
   ·obtain⟨j1,j2,j3,j4⟩:=ht.mine h1;exact⟨j1,List.mem_cons_of_mem _ j2,j3,j4⟩
  ·exact a8.bun (by rw[M,hn] at *;exact V) E
end
section
variable {D:DM}{S0:Sp}{C0:Ct}{O H H0:List Int}{P:Pl}
theorem Qko {R:Int->Nd × Int}{l:Nat}{N:Nd}{A B C:List Zv}(h:N=⟨((l+1:Nat):Int),[],(A++(B++C)).map Qy⟩)(e:∀x∈A,good1 R l x)(f:∀x∈C,good1 R l x):Outside R (l+1) N A.length (A.length+B.length) (A.map (·.2)) (C.map (·.2)):=by
 refine⟨⟨A,?_,rfl,e⟩,⟨C,?_,rfl,f⟩,by rw[h],by rw[List.length_map],by rw[h];unfold Nd.size;simp[Nat.add_assoc],by omega⟩
 ·rw[h,Po];simp
 ·rw[h,Po];have d:(A++(B++C)).drop (A.length+B.length)=C:=by
   rw[<-List.append_assoc,<-List.length_append,List.drop_left]
  rw[d,List.take_of_length_le];unfold Nd.size;simp only[List.length_nil,List.length_map,List.length_append];omega
theorem Qrz {R R':Int->Nd × Int}{l:Nat}{N:Nd}{M:List (List Qq)}(B:U7 R l N M)(h1:Iy (l:Int)<=M.length)(h2:M.length<=2*Iw (l:Int))(e:Ext R R'){f:List Int}(d:f.length=(pieces N).length)(m:Qd6 R' (pieces N) f) :
  ∃T:List Zv,List.zipWith Qax (pieces N) f=T.map Qy/\(∀x∈T,good1 R' l x)/\(T.map (·.2)).flatten=M.flatten/\T.map (·.1)=f/\1<=T.length/\T.length<=2:=by
 have E:Iy (l:Int)*2=Iw (l:Int)/\3<=Iy (l:Int):=by unfold Iy Iw;split<;>omega
 rcases Qer B h2 with⟨g,_⟩|⟨F,Y,g,q⟩|⟨F,z,A,rfl,g,q,G,I,J⟩
 ·rw[g] at h1;simp at h1;omega
 ·rw[g] at d m ⊢;match f,d with
  |[a],_=>
   obtain⟨j1,j2⟩:=m (N.cut 0 M.length,a) (List.mem_singleton.2 rfl);obtain⟨u,y⟩:=Qay q h1 e j1 j2;refine⟨[(a,M.flatten)],?_,λx p=>?_,by simp,rfl,by simp,by simp⟩
   ·show [Qax _ a]=_;rw[y];rfl
   ·rw[List.mem_singleton.1 p];exact u
  |[],d=>cases d
  |_::_::_,d=>cases d
 ·rw[g] at d m ⊢;match f,d with
  |[a1,a2],_=>
   obtain⟨K,U⟩:=m (_,a1) (List.mem_cons_self ..);obtain⟨Q,V⟩:=m (_,a2) (List.mem_cons_of_mem _ (List.mem_singleton.2 rfl));obtain⟨u,y⟩:=Qay q I e K U;obtain⟨W,X⟩:=Qay G J e Q V;refine⟨[(a1,z.flatten),(a2,A.flatten)],?_,λx p=>?_,by simp,rfl,by simp,by simp⟩
   ·show [Qax _ a1,Qax _ a2]=_;rw[y,X];rfl
   ·rcases List.mem_cons.1 p with rfl|p
    ·exact u
    ·rw[List.mem_singleton.1 p];exact W
  |[],d=>cases d
  |[_],d=>cases d
  |_::_::_::_,d=>cases d
structure Since (D:DM)(O O' H0:List Int)(P P':Pl)(k:Nat):Prop where
 old:∀l a t,a∈H0->Qe (P.hide D O) l a t->Qe (P'.hide D O') l a t
 free:P.C.free<=P'.C.free+k
 n:P'.C.n=P.C.n
theorem Since.trans {O' O'':List Int}{P' P'':Pl}{k k':Nat}(h:Since D O O' H0 P P' k)(h2:Since D O' O'' H0 P' P'' k'):Since D O O'' H0 P P'' (k+k'):=
 ⟨λl a t d e=>h2.old l a t d (h.old l a t d e),by have:=h.free;have:=h2.free;omega,h2.n.trans h.n⟩
theorem Since.fin {O':List Int}{P' P'':Pl}{k k':Nat}{r:Int}{its:List Qq}(h:Since D O O' H0 P P' k)(f:Aw D S0 C0 O' H0 P' P'' r its k'):Aw D S0 C0 O H0 P P'' r its (k+k'):=
 ⟨f.keep,f.tree,λl a t d e=>f.old l a t d (h.old l a t d e),by have:=h.free;have:=f.free;omega,f.n.trans h.n⟩
theorem Qca {d:List Int}{P':Pl}{l:Int}{k:Nat}(m:Move l D O d P P' k)(H0:List Int):Since D O d H0 P P' k:=⟨λ_ _ _ _ e=>Dl m.ext e,m.free,m.n⟩
def Qat (s:Zz)(l i j:Nat):List Int:=if s.shared=true then [] else if l=0 then (s.N.cut i j).named else []
structure Qmk (D:DM)(S0:Sp)(C0:Ct)(O H H0:List Int)(P:Pl)(l:Nat)(s:Zz)(way:List Zz)(L Rr:List Qq)(i j:Nat)(come:Nd)(ML Mc MR:List (List Qq)):Prop where
 keep:Keep D S0 C0 O H P
 spot:Zh P D O (l:Int) s
 up:Wj P D O l s way L Rr
 out:Outside (P.hide D O) l s.N i j ML MR
 Qxo:U7 (P.hide D O) l come Mc
 gone:(Qat s l i j).length<=1/\∀c∈Qat s l i j,P.hide D O c=(Jy,0)
 held:∀a:Nat,0<a->a<P.C.n->H.count (a:Int)=(own s++((if s.shared=true then [] else (Ls s i j).named)++(Qat s l i j++(come.named++Lh way H0)))).count (a:Int)
 dat:∀x∈(ML++(Mc++MR)).flatten,Dat (P.hide D O) x
 opens:∀y∈O,(s.shared=false/\y=s.addr)\/∃t∈way,t.shared=false/\y=t.addr
 rise:Zt (L++((ML++(Mc++MR)).flatten++Rr))
 fine:∀x∈L++((ML++(Mc++MR)).flatten++Rr),Nj x
 few:(L++((ML++(Mc++MR)).flatten++Rr)).length<=1000
 H0s:H0.length<=10000
 most:(ML++(Mc++MR)).length<=Iw (l:Int)+1
 least:way≠[]->Iy (l:Int)<=(ML++(Mc++MR)).length+1
 one:0<l->1<=(ML++(Mc++MR)).length
 high:l+way.length<=7
theorem Qgs:∀{way:List Zz} {l:Nat} {s:Zz} {L Rr:List Qq},Wj P D O l s way L Rr->(Lh way H0).length<=H0.length+14*way.length
 |[],l,s,L,Rr,_=>by show H0.length<=_;omega
 |t::way,l,s,L,Rr,h=>by
  obtain⟨g,m,x,z,A,e,u,B,E,y,F,G,I,J,f,p,q⟩:=h;have Q:=Qgs f;have d:=(q13 y (by rw[e];show ¬((l+1:Nat):Int)=0;omega)).2.2.2.2.1;rw[e] at d;have d:((g++x::m).map Qy).length<=12:=d;simp only[List.length_map,List.length_append,List.length_cons] at d;have K:(own t).length<=1:=by unfold own;split<;>simp
  have M:(if t.shared=true then [] else (Ls t t.next (t.next+1)).named).length<=12:=by
   split
   ·simp
   ·rw[Pz e u,List.length_append,List.length_map,List.length_map];omega
  show (own t++((if t.shared=true then [] else (Ls t t.next (t.next+1)).named)++Lh way H0)).length<=_;rw[List.length_append,List.length_append,List.length_cons];omega
theorem Qlq (s:Zz)(i j:Nat)(d:Nd)(a:Int):(Pe s i j d).named.count a=(Ls s i j).named.count a+d.named.count a:=by
 unfold Pe Ls;rw[Qb5,Qb5];simp only[List.map_cons,List.map_nil,List.sum_cons,List.sum_nil];omega
theorem Qr0 {O:List Int}{c:Int}(h:c∉O):less1 (c::O) c=O:=by
 unfold less1;rw[List.filter_cons_of_neg (by simp)];exact List.filter_eq_self.2 λx d=>by
  have:x≠c:=λe=>h (e▸d)
  simpa using this
theorem Qpn {R:Int->Nd × Int}{l:Nat}{a c:Int}{t:List Qq}(h:Qe R l a t)(hd:R c=(Jy,0)):a≠c:=λe=>by
 have h1:=(Gv h).2.1;rw[e,hd] at h1;have h2:(-1:Int)=(l:Int):=h1;omega
theorem Qvo (K:Keep D S0 C0 O H P){s:Zz}{way:List Zz}{L Rr:List Qq}(T:Zh P D O ((0:Nat):Int) s)(p:Wj P D O 0 s way L Rr)(u:s.shared=false){c:Int}(hd:P.hide D O c=(Jy,0)){X:List Int}
  (E:∀a:Nat,0<a->a<P.C.n->H.count (a:Int)=(c::X).count (a:Int)) (V:∀a∈Lh way H0,a∈X) :
  P.C.Jc c=0/\Keep D S0 C0 O X ⟨P.S,P.C.Zf c,P.L⟩/\Zh ⟨P.S,P.C.Zf c,P.L⟩ D O ((0:Nat):Int) s/\Wj ⟨P.S,P.C.Zf c,P.L⟩ D O 0 s way L Rr/\Since D O O H0 P ⟨P.S,P.C.Zf c,P.L⟩ 0/\
   ∀x,Dat (P.hide D O) x->(∀d,Vy x=some d->d∈X)->Dat (Pl.hide ⟨P.S,P.C.Zf c,P.L⟩ D O) x:=by
 obtain⟨M,n,rfl,hn,h0⟩:=Fq (P:=P) (D:=D) (O:=O) (x:=c) (by rw[hd]);have R:P.Qj D (n:Int)≠0:=by
  rw[Vt M] at hd;exact (Qj7 K.Zu hd).2
 have W:(P.Qb D (n:Int)).lvl=0:=by rw[Qgm R];rfl
 obtain⟨c0,_⟩:=K.first h0
 have g:(n:Int)∈H:=List.count_pos_iff.1 (by rw[E n c0 hn,List.count_cons];simp);obtain⟨Y,m2,m3,Z⟩:=T.mine u;have m:s.addr≠(n:Int):=λe=>R (by rw[<-e];exact Z)
 have I:=Qf5 p Y;have other:∀x:Int,x≠(n:Int)->(P.C.Zf (n:Int)).get x=P.C.get x/\Pl.store ⟨P.S,P.C.Zf (n:Int),P.L⟩ D x=P.store D x:=λx m=>by
  rw[(G9 h0).2];exact q30 m
 have y:Zh ⟨P.S,P.C.Zf (n:Int),P.L⟩ D O ((0:Nat):Int) s:=T.other (s:=⟨Qu,(n:Int),0,false,false⟩) (.inr m) (λx A=>other x A) λ_ _=>Iff.rfl
 by_cases h1:P.C.get (n:Int)=1
 ·have F:=K.open_ h1 g M;rw[q16 hd,List.nil_append] at F;obtain⟨G,B,Q⟩:=F.drop (H0:=X) (List.mem_cons_self ..) E;have f:=Q 0 (by omega);rw[Qr0 M] at B f;have q:(n:Int)∉X:=λhm=>by
   have h2:=(K.once h1 g).1;rw[E n c0 hn,List.count_cons] at h2;have:=List.count_pos_iff.2 hm;simp at h2;omega
  have z:=p.open_ K h1 g I u (H0:=H0) (λhm=>q (V _ hm));refine⟨G,B,y,z.ext F f.ext f.above (Nat.le_refl _),⟨λl a t _ U=>Dl f.ext (open_tree K h1 g l a t (Qpn U hd) U),by have:=f.free;omega,f.n⟩,λx A J=>(Qoa A λe=>q (J _ e)).ext f.ext⟩
 ·have h2:2<=P.C.get (n:Int):=by
   have:=K.nonneg (n:Int);omega
  obtain⟨G,B,Q⟩:=K.Zf (H0:=X) h2 E;have f:=Q 0 (by omega);exact⟨G,B,y,p.ext K f.ext f.above (Nat.le_refl _),Qca f H0,λx A _=>A.ext f.ext⟩
theorem Qil {l:Nat}{s:Zz}{way:List Zz}{L Rr:List Qq}{i j:Nat}{f:Nd}{G J I:List (List Qq)}(h:Qmk D S0 C0 O H H0 P l s way L Rr i j f G J I) :
  ∃q,P.X7 s i j=some q/\Keep D S0 C0 O (own s++((Pe s i j f).named++Lh way H0)) q/\U7 (q.hide D O) l (Pe s i j f) (G++(J++I))/\Zh q D O (l:Int) s/\Wj q D O l s way L Rr/\Since D O O H0 P q 0/\∀x∈(G++(J++I)).flatten,Dat (q.hide D O) x:=by
 have B:∀x∈(G++I).flatten,Dat (P.hide D O) x:=λx p=>h.dat x (by
  simp only[List.flatten_append,List.mem_append] at p ⊢;rcases p with h|h
  ·exact .inl h
  ·exact .inr (.inr h))
 have T:∀x∈J.flatten,Dat (P.hide D O) x:=λx p=>h.dat x (by
  simp only[List.flatten_append,List.mem_append];exact .inr (.inl p))
 have a1:Iw (l:Int)<=12:=by unfold Iw;split<;>omega
 have W:=h.most;simp only[List.length_append] at W;have y:=h.keep.perm λa h1 h2=>(h.held a h1 h2).symm
 have n1:=(Qe5 (Qnu h.out) B).2;have n2:=(Qe5 h.Qxo T).2;have n3:=Qgs (H0:=H0) h.up;have n4:(own s).length<=1:=by unfold own;split<;>simp
 have n5:=h.high;have n6:=h.H0s;have M:=h.gone.1;rw[List.length_append] at n1;by_cases u:Qat s l i j=[]
 ·rw[u,List.nil_append] at y;obtain⟨q,A,Q,z⟩:=Qfu y h.out B (λh1 h2=>by
   unfold Qat at u;rw[h1,if_neg (by decide),if_pos h2] at u;exact u) (by omega) (by
   have M:(if s.shared=true then [] else (Ls s i j).named).length<=(Ls s i j).named.length:=by
    split
    ·exact Nat.zero_le _
    ·exact Nat.le_refl _
   rw[List.length_append,List.length_append,List.length_append];omega)
  refine⟨q,A,Q.perm λa _ _=>?_,Qti (Qtk h.out h.Qxo) (z 0).ext,h.spot.above y (z ((l:Int)-1)).above (by omega),h.up.ext y (z (l:Int)).ext (z (l:Int)).above (Nat.le_refl _),Qca (z 0) H0,λx p=>(h.dat x p).ext (z 0).ext⟩;simp only[List.count_append,Qlq];by_cases K:s.shared=true
  ·rw[if_pos K,if_pos K];simp only[List.count_nil];omega
  ·rw[if_neg K,if_neg K];simp only[List.count_nil];omega
 ·obtain⟨c,g⟩:∃c,Qat s l i j=[c]:=by
   match Qat s l i j,u,M with
   |[c],_,_=>exact⟨c,rfl⟩
   |[],u,_=>exact absurd rfl u
   |_::_::_,_,M=>simp at M
  have m:s.shared=false:=by
   cases e:s.shared with
   |false=>rfl
   |true=>unfold Qat at g;rw[e,if_pos rfl] at g;cases g
  have hl:l=0:=by
   refine Classical.byContradiction λe=>?_
   unfold Qat at g;rw[m,if_neg (by decide),if_neg e] at g
   cases g
  subst hl;have hcut:(s.N.cut i j).named=[c]:=by
   unfold Qat at g;rw[m,if_neg (by decide),if_pos rfl] at g;exact g
  have hd:=h.gone.2 c (by rw[g];exact List.mem_singleton.2 rfl);rw[g,m,if_neg (by decide)] at y;obtain⟨e0,Q,V,Y,F,E⟩:=Qvo (H0:=H0) (X:=own s++((Pe s i j f).named++Lh way H0)) y h.spot h.up m hd (λa _ _=>by
   simp only[List.count_append,List.count_cons,List.count_nil,Qlq];omega) (λa ha=>List.mem_append_right _ (List.mem_append_right _ ha))
  have Z:=Qtk h.out h.Qxo;refine⟨_,?_,Q,?_,V,Y,F,λx p=>E x (h.dat x p) λd U=>?_⟩
  ·unfold Pl.X7;rw[m,if_neg (by decide),h.out.lvl,if_neg (by decide),hcut];show (if P.C.Jc c=0 then _ else none)=_;rw[if_pos e0];rfl
  ·obtain⟨its,A,R⟩:=Z;exact⟨its,A,R⟩
  ·obtain⟨its,A,R⟩:=Z;rw[R,Nb] at p;refine List.mem_append_right _ (List.mem_append_left _ ?_);rw[A];exact List.mem_append_right _ (List.mem_filterMap.2 ⟨x,p,U⟩)
theorem Qpa (K:Keep D S0 C0 O H P){l:Nat}{t:Zz}{way:List Zz}{L' R':List Qq}{N:Nd}{M:List (List Qq)}{olds:List Zz}{A B C:List Zv}
  (hb:U7 (P.hide D O) l N M) (h1:Iy (l:Int)<=M.length) (h2:M.length<=2*Iw (l:Int)) (hs:∀s∈olds,Zh P D O (l:Int) s) (hd:olds.Pairwise λs o=>o.held=true\/o.addr≠s.addr)
  (hG:t.N=⟨((l+1:Nat):Int),[],(A++(B++C)).map Qy⟩) (hA:∀x∈A,good1 (P.hide D O) l x) (hC:∀x∈C,good1 (P.hide D O) l x) (ht:Zh P D O ((l+1:Nat):Int) t) (b2:Wj P D O (l+1) t way L' R')
  (hH:∀a:Nat,0<a->a<P.C.n->H.count (a:Int)=(olds.flatMap own++(N.named++(own t++((if t.shared=true then [] else A.map (·.1)++C.map (·.1))++Lh way H0)))).count (a:Int))
  (hO:∀y∈O,(∃s∈olds,s.shared=false/\y=s.addr)\/(t.shared=false/\y=t.addr)\/∃t'∈way,t'.shared=false/\y=t'.addr)
  (hB:1<=B.length/\B.length<=2) (hm:A.length+B.length+C.length<=12) (b4:2<=A.length+B.length+C.length) (a8:way≠[]->6<=A.length+B.length+C.length)
  (hr:Zt ((L'++rowOf A)++(M.flatten++(rowOf C++R')))) (hf:∀x∈(L'++rowOf A)++(M.flatten++(rowOf C++R')),Nj x) (Z:((L'++rowOf A)++(M.flatten++(rowOf C++R'))).length<=1000) (f:∀x∈M.flatten,Dat (P.hide D O) x) (a2:H0.length<=10000) (hi:l+1+way.length<=7) :
  (∃g ks z H3 Mc,P.Tq ⟨N,olds,A.length,A.length+B.length⟩=some (g,some ks)/\Qmk D S0 C0 z H3 H0 g (l+1) t way L' R' A.length (A.length+B.length) ⟨N.lvl+1,[],ks⟩ (A.map (·.2)) Mc (C.map (·.2))/\Since D O z H0 P g 2/\
   L'++((A.map (·.2)++(Mc++C.map (·.2))).flatten++R')=(L'++rowOf A)++(M.flatten++(rowOf C++R')))\/(∃g,P.Tq ⟨N,olds,A.length,A.length+B.length⟩=some (g,none)/\P.C.free<2):=by
 have b3:Iy (l:Int)*2=Iw (l:Int)/\3<=Iy (l:Int):=by unfold Iy Iw;split<;>omega
 have E:∀x∈M.flatten,Nj x:=λx d=>hf x (List.mem_append_right _ (List.mem_append_left _ d))
 have J:Zt M.flatten:=(Lr (Lr hr).2).1;have b0:=Qfs hb h2;have a1:=Qer hb h2;have R:∀p∈pieces N,Fits (P.hide D O) p:=λp I=>by
  rcases a1 with⟨_,e⟩|⟨k1,k2,e,X⟩|⟨k1,M1,M2,rfl,e,X,k4,k5,k6⟩
  ·rw[e] at I;cases I
  ·rw[e,List.mem_singleton] at I;rw[I];exact X.fits (by omega) (λ_=>by omega) J E f
  ·rw[List.flatten_append] at J E f;rw[e] at I;rcases List.mem_cons.1 I with rfl|I
   ·exact X.fits (by omega) (λ_=>by omega) (Lr J).1 (λx d=>E x (List.mem_append_left _ d)) λx d=>f x (List.mem_append_left _ d)
   ·rw[List.mem_singleton] at I;rw[I];exact k4.fits (by omega) (λ_=>by omega) (Lr J).2 (λx d=>E x (List.mem_append_right _ d)) λx d=>f x (List.mem_append_right _ d)
 have W:(pieces N).length<=2:=by
  rcases a1 with⟨_,e⟩|⟨k1,k2,e,X⟩|⟨k1,M1,M2,_,e,X,k4,k5,k6⟩<;>rw[e]<;>simp
 rcases Qo9 (l:=(l:Int)) K ⟨N,olds,A.length,A.length+B.length⟩ (own t++((if t.shared=true then [] else A.map (·.1)++C.map (·.1))++Lh way H0)) hs hd R (λa h1 h2=>by
   rw[hH a h1 h2,b0]) with⟨g,z,az,Y,Q,K3,u,gO,gl⟩|⟨g,Y,Q⟩
 ·left
  have Y:az.length=(pieces N).length:=Y;have gl:Qd6 (g.hide D z) (pieces N) az:=gl;have u:Move (l:Int) D O z P g (pieces N).length:=u;obtain⟨T,t1,t2,t3,t4,t5,t6⟩:=Qrz hb h1 h2 u.ext Y gl;have Q:P.Tq ⟨N,olds,A.length,A.length+B.length⟩=some (g,some (List.zipWith Qax (pieces N) az)):=Q;rw[t1] at Q;have a6:=Qa1 hb;have eN:(⟨N.lvl+1,[],T.map Qy⟩:Nd)=⟨((l+1:Nat):Int),[],T.map Qy⟩:=by rw[a6];rfl
  have m:L'++((A.map (·.2)++(T.map (·.2)++C.map (·.2))).flatten++R')=(L'++rowOf A)++(M.flatten++(rowOf C++R')):=by
   rw[List.flatten_append,List.flatten_append,t3];unfold rowOf;simp only[List.append_assoc]
  have a7:Move (l:Int) D O z P g 2:=u.more W;have U:Qat t (l+1) A.length (A.length+B.length)=[]:=by
   unfold Qat;split
   ·rfl
   ·rfl
  have V:Iw ((l+1:Nat):Int)=12:=if_neg (by omega);have F:Iy ((l+1:Nat):Int)=6:=if_neg (by omega);refine⟨g,_,z,az++(own t++((if t.shared=true then [] else A.map (·.1)++C.map (·.1))++Lh way H0)),T.map (·.2),Q,?_,Qca a7 H0,m⟩;rw[eN];refine⟨K3,ht.above K u.above (by omega),b2.ext K u.ext u.above (by omega),Qko hG (λx d=>Pq (hA x d) u.ext) (λx d=>Pq (hC x d) u.ext),⟨T,rfl,rfl,t2⟩,⟨by rw[U];exact Nat.zero_le _,λc hc=>by rw[U] at hc;cases hc⟩,λa _ _=>?_,λx d=>?_,λy hy=>?_,by rw[m];exact hr,by rw[m];exact hf,by rw[m];exact Z,a2,?_,λhw=>?_,λ_=>?_,hi⟩
  ·have e1:(Ls t A.length (A.length+B.length)).named=A.map (·.1)++C.map (·.1):=by
    rw[Qes hG,Na,List.take_left,<-List.append_assoc,<-List.length_append,List.drop_left,List.map_append]
   rw[e1,Na,t4,U];simp only[List.count_append];split<;>simp only[List.count_append,List.count_nil]<;>omega
  ·obtain⟨r,b1,d⟩:=List.mem_flatten.1 d;have q:∀G:List Zv,(∀x∈G,good1 (g.hide D z) l x)->r∈G.map (·.2)->Dat (g.hide D z) x:=λG hG hm=>by
    obtain⟨y,hy,rfl⟩:=List.mem_map.1 hm;exact K3.dat l _ _ (hG y hy).1 x d
   rcases List.mem_append.1 b1 with h|h
   ·exact q A (λx d=>Pq (hA x d) u.ext) h
   ·rcases List.mem_append.1 h with h|h
    ·exact q T t2 h
    ·exact q C (λx d=>Pq (hC x d) u.ext) h
  ·obtain⟨j1,j2⟩:=gO y hy;rcases hO y j1 with⟨s,k1,k2,X⟩|h|h
   ·exact absurd X (j2 s k1 k2)
   ·exact .inl h
   ·exact .inr h
  ·rw[V];simp only[List.length_append,List.length_map];omega
  ·rw[F];have:=a8 hw;simp only[List.length_append,List.length_map];omega
  ·simp only[List.length_append,List.length_map];omega
 ·right
  have Q:P.C.free<(pieces N).length:=Q;exact⟨g,Y,by omega⟩
end
