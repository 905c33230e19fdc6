/- The way up, node by node: what Put and Delete leave -/
import Derived.Test.YthkfkhejjmhomaaGreatDoorDz37
namespace Go.Proofs.YthkfkhejjmhomaaGreatDoor
open Go Go.RowKit Go.Proofs
section
variable {D:DM}{S0:Sp}{C0:Ct}{O H H0:List Int}{P:Pl}
theorem Qtl {R:Int->Nd × Int}{l:Nat}{N:Nd}{M:List (List Qq)}(f:U7 R l N M){y:Zv}(p:Qe R l y.1 y.2):y.1∉N.kids.map (·.a):=by
 cases l with
 |zero=>
  obtain⟨its,rfl,_⟩:=f;simp
 |succ l=>
  obtain⟨G,rfl,_,m⟩:=f;intro h;obtain⟨z,q,e⟩:=List.mem_map.1 h;obtain⟨g,d,rfl⟩:=List.mem_map.1 q;have h1:=(Gv (m g d).1).2.1;have h2:=(Gv p).2.1;have e:g.1=y.1:=e;rw[e] at h1;omega
theorem Qbt {a:Int}{X:List Int}(h:X.count a=0):a∉X:=λhm=>by
 have:=List.count_pos_iff.2 hm;omega
theorem Qjx (left:Bool){l:Nat}{s t:Zz}{way:List Zz}{L' R':List Qq}{b:Nd}{M:List (List Qq)}{A C:List Zv}{x y:Zv}(K:Keep D S0 C0 O (own s++(b.named++Lh (t::way) H0)) P)(b8:H0.length<=10000)(hi:l+1+way.length<=7)
  (hG:t.N=⟨((l+1:Nat):Int),[],(A++((if left=true then [y,x] else [x,y])++C)).map Qy⟩) (hn:t.next=A.length+if left=true then 1 else 0) (d6:s.held=t.shared) (hm:A.length+2+C.length<=12) (b9:way≠[]->6<=A.length+2+C.length)
  (hA:∀z∈A,good1 (P.hide D O) l z) (hC:∀z∈C,good1 (P.hide D O) l z) (hy:good1 (P.hide D O) l y) (Z:y.1≠s.addr) (ht:Zh P D O ((l+1:Nat):Int) t) (hs:Zh P D O (l:Int) s) (b6:Wj P D O (l+1) t way L' R')
  (hb:U7 (P.hide D O) l b M) (d0:Iy (l:Int)<=M.length+1) (d1:M.length<Iy (l:Int))
  (hO:∀z∈O,(s.shared=false/\z=s.addr)\/(t.shared=false/\z=t.addr)\/∃t'∈way,t'.shared=false/\z=t'.addr)
  (hr:Zt ((L'++rowOf A)++((if left=true then y.2++M.flatten else M.flatten++y.2)++(rowOf C++R')))) (hf:∀z∈(L'++rowOf A)++((if left=true then y.2++M.flatten else M.flatten++y.2)++(rowOf C++R')),Nj z) (b2:((L'++rowOf A)++((if left=true then y.2++M.flatten else M.flatten++y.2)++(rowOf C++R'))).length<=1000) (b1:∀z∈M.flatten,Dat (P.hide D O) z) :
  ∃g u f,P.near D t (if left=true then t.next-1 else t.next+1)=some g/\f=P.W9 D t (if left=true then t.next-1 else t.next+1)/\f.N.lvl=(l:Int)/\Since D O u H0 P g 0/\
   ((∃P3 ks O3 H3 Mc,g.Tq ⟨Wv (l:Int) (if left=true then [f.N,b] else [b,f.N]),(if left=true then [f,s] else [s,f]),A.length,A.length+2⟩=some (P3,some ks)/\Qmk D S0 C0 O3 H3 H0 P3 (l+1) t way L' R' A.length (A.length+2) ⟨(l:Int)+1,[],ks⟩ (A.map (·.2)) Mc (C.map (·.2))/\Since D u O3 H0 g P3 2/\
   L'++((A.map (·.2)++(Mc++C.map (·.2))).flatten++R')=(L'++rowOf A)++((if left=true then y.2++M.flatten else M.flatten++y.2)++(rowOf C++R')))\/(∃P3,g.Tq ⟨Wv (l:Int) (if left=true then [f.N,b] else [b,f.N]),(if left=true then [f,s] else [s,f]),A.length,A.length+2⟩=some (P3,none)/\g.C.free<2)):=by
 have d4:Iy (l:Int)*2=Iw (l:Int)/\3<=Iy (l:Int)/\Iw (l:Int)<=12:=by unfold Iy Iw;split<;>omega
 have d3:∀z∈y.2,Nj z:=λz d=>hf z (by
  refine List.mem_append_right _ (List.mem_append_left _ ?_);split
  ·exact List.mem_append_left _ d
  ·exact List.mem_append_right _ d)
 have d2:∀z∈M.flatten,Nj z:=λz d=>hf z (by
  refine List.mem_append_right _ (List.mem_append_left _ ?_);split
  ·exact List.mem_append_right _ d
  ·exact List.mem_append_left _ d)
 have hq:(A++((if left=true then [y,x] else [x,y])++C))[if left=true then t.next-1 else t.next+1]?=some y:=by
  rw[hn]
  cases left
  ·simp
  ·simp
 have G:∀a,(Ls t t.next (t.next+1)).named.count a=(A.map (·.1)).count a + [y.1].count a+(C.map (·.1)).count a:=λa=>by
  cases left
  ·have e:=Pz (l:=l) (GL:=A) (GR:=y::C) (x:=x) (by rw[hG];simp) (by rw[hn];rfl);rw[e];simp only[List.map_cons,List.count_append,List.count_cons,List.count_nil];omega
  ·have e:=Pz (l:=l) (GL:=A++[y]) (GR:=C) (x:=x) (by rw[hG];simp) (by rw[hn];simp);rw[e];simp only[List.map_append,List.map_cons,List.map_nil,List.count_append,List.count_cons,List.count_nil]
 have b5:∀a,(Lh (t::way) H0).count a=(own t).count a+((if t.shared=true then [] else (Ls t t.next (t.next+1)).named).count a+(Lh way H0).count a):=λa=>by
  show (own t++((if t.shared=true then [] else (Ls t t.next (t.next+1)).named)++Lh way H0)).count a=_;rw[List.count_append,List.count_append]
 have V:t.shared=false->∀a,(own s++(b.named++Lh (t::way) H0)).count a=(own s).count a+(b.named.count a+((own t).count a+(((A.map (·.1)).count a + [y.1].count a+(C.map (·.1)).count a)+(Lh way H0).count a))):=λh a=>by
  rw[List.count_append,List.count_append,b5,h,if_neg (by decide),G]
 have X:([y.1]:List Int).count y.1=1:=by simp
 have W:t.shared=false->y.1∈own s++(b.named++Lh (t::way) H0):=λh=>by
  refine List.count_pos_iff.1 ?_;rw[V h,X];omega
 have m:t.shared=false->(own s++(b.named++Lh (t::way) H0)).count y.1=1->y.1∉A.map (·.1)/\y.1∉C.map (·.1)/\y.1∉Lh way H0/\y.1∉own t:=λh h1=>by
  rw[V h,X] at h1;exact⟨Qbt (by omega),Qbt (by omega),Qbt (by omega),Qbt (by omega)⟩
 obtain⟨_,n,en,_,c9⟩:=Fq (Gv hy.1).2.2;have a1:t.shared=false->P.C.get y.1=1->(own s++(b.named++Lh (t::way) H0)).count y.1=1:=λh h1=>by
  have:=W h;rw[en] at this h1 ⊢;exact (K.once h1 this).1
 have n3:=Qgs (H0:=H0) b6;have n4:(own s).length<=1:=by unfold own;split<;>simp
 have n5:=(Qe5 hb b1).2;have n6:(own t).length<=1:=by unfold own;split<;>simp
 have n7:(Ls t t.next (t.next+1)).named.length<=12:=by
  cases left
  ·have e:=Pz (l:=l) (GL:=A) (GR:=y::C) (x:=x) (by rw[hG];simp) (by rw[hn];rfl);rw[e];simp;omega
  ·have e:=Pz (l:=l) (GL:=A++[y]) (GR:=C) (x:=x) (by rw[hG];simp) (by rw[hn];simp);rw[e];simp;omega
 have b3:(own s++(b.named++Lh (t::way) H0)).length<=20000:=by
  have e:(Lh (t::way) H0).length<=1+(12+(Lh way H0).length):=by
   show (own t++((if t.shared=true then [] else (Ls t t.next (t.next+1)).named)++Lh way H0)).length<=_;rw[List.length_append,List.length_append];split
   ·rw[List.length_nil];omega
   ·omega
  rw[List.length_append,List.length_append];omega
 obtain⟨g,u,q,e1,NB,Y,p,a7,a8,b4⟩:=Qwf K (H0:=H0) hG hq hy ht hs Z b6 b3 (λh1 h2=>by
  obtain⟨_,_,j3,j4⟩:=m h1 (a1 h1 h2);refine⟨W h1,j3,λe=>j4 ?_⟩;unfold own;rw[(ht.mine h1).1,if_neg (by decide),e];exact List.mem_singleton.2 rfl)
 generalize d5:P.W9 D t (if left=true then t.next-1 else t.next+1)=f at e1 NB Y p a7 a8 b4;have F:∀z∈A++C,good1 (P.hide D O) l z->good1 (g.hide D u) l z:=λz d hg=>by
  rcases NB.once with⟨j1,_,j3,j4⟩|⟨_,j2⟩
  ·obtain⟨i1,i2,_,_⟩:=m j4 j3;refine NB.near.good (λe=>?_) hg;rcases List.mem_append.1 d with h|h
   ·exact i1 (e▸List.mem_map_of_mem h)
   ·exact i2 (e▸List.mem_map_of_mem h)
  ·exact Pq hg j2
 have b0:U7 (g.hide D u) l b M:=NB.near.bun (Qtl hb hy.1) hb;have U:Since D O u H0 P g 0:=⟨λl a its ha T=>by
  rcases NB.once with⟨j1,_,j3,j4⟩|⟨_,j2⟩
  ·obtain⟨_,_,i3,_⟩:=m j4 j3;exact NB.near.tree l a its (λe=>i3 (e▸restH_sub way ha)) T
  ·exact Dl j2 T,by have:=NB.free;omega,NB.n⟩
 have b7:0<=(P.hide D O y.1).1.lvl:=by rw[(Gv hy.1).2.1];exact Int.natCast_nonneg l
 have J:∀z∈(q++M).flatten,Dat (g.hide D u) z:=λz d=>by
  rw[List.flatten_append,p] at d;rcases List.mem_append.1 d with h|h
  ·exact NB.near.dat b7 (K.dat l _ _ hy.1 z h)
  ·exact NB.near.dat b7 (b1 z h)
 have hJ:U7 (g.hide D u) l (Wv (l:Int) (if left=true then [f.N,b] else [b,f.N])) (if left=true then q++M else M++q):=by
  cases left
  ·have:=Qc2 (R:=g.hide D u) (l:=l) [(b,M),(f.N,q)] (λz d=>by
    rcases List.mem_cons.1 d with rfl|d
    ·exact b0
    ·rw[List.mem_singleton.1 d];exact Y)
   simpa using this
  ·have:=Qc2 (R:=g.hide D u) (l:=l) [(f.N,q),(b,M)] (λz d=>by
    rcases List.mem_cons.1 d with rfl|d
    ·exact Y
    ·rw[List.mem_singleton.1 d];exact b0)
   simpa using this
 have e0:∀z∈(if left=true then q++M else M++q).flatten,Dat (g.hide D u) z:=λz d=>J z (by
  rw[List.flatten_append];split at d
  ·rw[List.flatten_append] at d;exact d
  ·rw[List.flatten_append] at d;rcases List.mem_append.1 d with h|h
   ·exact List.mem_append_right _ h
   ·exact List.mem_append_left _ h)
 have c6:∀a,(Wv (l:Int) (if left=true then [f.N,b] else [b,f.N])).named.count a=f.N.named.count a+b.named.count a:=λa=>by
  rw[Qb5]
  cases left
  ·simp only[Bool.false_eq_true,if_false,List.map_cons,List.map_nil,List.sum_cons,List.sum_nil];omega
  ·simp only[if_true,List.map_cons,List.map_nil,List.sum_cons,List.sum_nil];omega
 have Q:(if left=true then q++M else M++q).flatten=if left=true then y.2++M.flatten else M.flatten++y.2:=by
  cases left
  ·simp[p]
  ·simp[p]
 have a6:(if left=true then q++M else M++q).length=q.length+M.length:=by
  cases left
  ·simp[Nat.add_comm]
  ·simp
 have E:(if left=true then [y,x] else [x,y]).length=2:=by cases left<;>rfl
 have a2:(own f).count=λa=>if t.shared=true then 0 else [y.1].count a:=by
  funext a
  unfold own;rw[NB.held,NB.addr];split<;>simp
 have I:=Qpa (H0:=H0) NB.keep (l:=l) (t:=t) (way:=way) (L':=L') (R':=R') (olds:=if left=true then [f,s] else [s,f]) (A:=A) (B:=if left=true then [y,x] else [x,y]) (C:=C) hJ (by rw[a6];omega) (by rw[a6];omega)
  (λz d=>by
   have:z=f\/z=s:=by
    split at d
    ·rcases List.mem_cons.1 d with h|h
     ·exact .inl h
     ·exact .inr (List.mem_singleton.1 h)
    ·rcases List.mem_cons.1 d with h|h
     ·exact .inr h
     ·exact .inl (List.mem_singleton.1 h)
   rcases this with rfl|rfl
   ·exact NB.Ie
   ·exact NB.sk)
  (by
   split
   ·exact List.pairwise_cons.2 ⟨λz d=>by rw[List.mem_singleton.1 d];exact .inr (by rw[NB.addr];exact λe=>Z e.symm),List.pairwise_singleton _ _⟩
   ·exact List.pairwise_cons.2 ⟨λz d=>by rw[List.mem_singleton.1 d];exact .inr (by rw[NB.addr];exact Z),List.pairwise_singleton _ _⟩)
  hG (λz d=>F z (List.mem_append_left _ d) (hA z d)) (λz d=>F z (List.mem_append_right _ d) (hC z d)) NB.tk NB.up (λa _ _=>by
   have ho:((if left=true then [f,s] else [s,f]).flatMap own).count (a:Int)=(own f).count (a:Int)+(own s).count (a:Int):=by
    cases left
    ·simp[List.count_append,Nat.add_comm]
    ·simp[List.count_append]
   have c7:(own f).count (a:Int)=if t.shared=true then 0 else [y.1].count (a:Int):=congrFun a2 (a:Int)
   simp only[List.count_append,ho,c7,c6,b5];by_cases T:t.shared=true
   ·rw[if_pos T,if_pos T,if_pos T];omega
   ·rw[if_neg T,if_neg T,if_neg T,G,List.count_append];omega)
  (λz d=>by
   have c8:z=y.1/\f.shared=false\/z∈O:=by
    rcases NB.once with⟨j1,j2,_⟩|⟨j1,_⟩
    ·rw[j1] at d;rcases List.mem_cons.1 d with h|h
     ·exact .inl ⟨h,j2⟩
     ·exact .inr h
    ·rw[j1] at d;exact .inr d
   rcases c8 with⟨h1,h2⟩|h
   ·exact .inl ⟨f,by split<;>simp,h2,by rw[NB.addr];exact h1⟩
   ·rcases hO z h with⟨h1,h2⟩|h
    ·exact .inl ⟨s,by split<;>simp,h1,h2⟩
    ·exact .inr h)
  (by rw[E];omega) (by rw[E];exact hm) (by rw[E];omega) (by rw[E];exact b9) (by rw[Q];exact hr) (by rw[Q];exact hf) (by rw[Q];exact b2) e0 b8 hi
 rw[E,Q] at I;refine⟨g,u,f,e1,rfl,b4,U,?_⟩;exact I
where
 restH_sub {H0:List Int}:∀(way:List Zz) {a:Int},a∈H0->a∈Lh way H0
  |[],a,h=>h
  |t::way,a,h=>List.mem_append_right _ (List.mem_append_right _ (restH_sub way h))
end
section
variable {D:DM}{S0:Sp}{C0:Ct}{H0:List Int}
def P8 (D:DM)(S0:Sp)(C0:Ct)(O H0:List Int)(P:Pl)(its:List Qq)(k:Nat)(E:Option (Pl × Option Int)):Prop:=
 (∃d r,E=some (d,some r)/\Aw D S0 C0 O H0 P d r its k)\/(∃d,E=some (d,none)/\P.C.free<k)
theorem P8.since {O O':List Int}{P P':Pl}{its:List Qq}{k k':Nat}{E:Option (Pl × Option Int)}(h:Since D O O' H0 P P' k)(e:P8 D S0 C0 O' H0 P' its k' E):P8 D S0 C0 O H0 P its (k+k') E:=by
 rcases e with⟨d,r,f,g⟩|⟨d,f,g⟩
 ·exact .inl ⟨d,r,f,h.fin g⟩
 ·exact .inr ⟨d,f,by have:=h.free;omega⟩
theorem P8.more {O:List Int}{P:Pl}{its:List Qq}{k k':Nat}{E:Option (Pl × Option Int)}(e:P8 D S0 C0 O H0 P its k E)(hk:k<=k'):P8 D S0 C0 O H0 P its k' E:=by
 rcases e with⟨f,r,g,d⟩|⟨f,g,d⟩
 ·exact .inl ⟨f,r,g,⟨d.keep,d.tree,d.old,by have:=d.free;omega,d.n⟩⟩
 ·exact .inr ⟨f,g,by omega⟩
theorem Qeh {l:Nat}{t:Zz}{way:List Zz}{L' R' its:List Qq}{O:List Int}{P:Pl}{x:Ia}{a b:Nat}{y z:List (List Qq)}{n:Int}
  (g:(∃d m p u f,P.Tq x=some (d,some m)/\Qmk D S0 C0 p u H0 d (l+1) t way L' R' a b ⟨n,[],m⟩ y f z/\Since D O p H0 P d 2/\L'++((y++(f++z)).flatten++R')=its)\/(∃d,P.Tq x=some (d,none)/\P.C.free<2))
  (I:∀{O H:List Int} {P:Pl} {i j:Nat} {e:Nd} {A f B:List (List Qq)},Qmk D S0 C0 O H H0 P (l+1) t way L' R' i j e A f B->P8 D S0 C0 O H0 P (L'++((A++(f++B)).flatten++R')) (2*way.length+3) (Qas D way P t i j e)) :
  P8 D S0 C0 O H0 P its (2*way.length+5) (match P.Tq x with
    |some (d,some m)=>Qas D way d t a b ⟨n,[],m⟩
    |some (d,none)=>some (d,none)
    |none=>none):=by
 rcases g with⟨d,m,p,u,f,q,E,F,G⟩|⟨d,q,E⟩
 ·rw[q];have:=P8.since F (I E);rw[G] at this;exact this.more (by omega)
 ·rw[q];exact .inr ⟨d,rfl,by omega⟩
theorem Oz (A B:List Zv):rowOf (A++B)=rowOf A++rowOf B:=by unfold rowOf;simp
theorem row_one (y:Zv):rowOf [y]=y.2:=by unfold rowOf;simp
theorem Qgh:∀(way:List Zz) {l:Nat} {s:Zz} {O H:List Int} {P:Pl} {L Rr:List Qq} {i j:Nat} {d:Nd} {V X W:List (List Qq)},Qmk D S0 C0 O H H0 P l s way L Rr i j d V X W->
  P8 D S0 C0 O H0 P (L++((V++(X++W)).flatten++Rr)) (2*way.length+3) (Qas D way P s i j d)
 |[],l,s,O,H,P,L,Rr,i,j,d,V,X,W,h=>by
  obtain⟨P1,e1,K1,I,hs,b0,p,E⟩:=Qil h;obtain⟨rfl,rfl⟩:=h.up;have G:=h.rise;have F:=h.fine;have f:=h.few;simp only[List.nil_append,List.append_nil] at G F f;have ht:=Zbc K1 I hs (H0:=H0) (λ_ _ _=>rfl) G F E (by have:=h.high;omega) f h.most h.one (λy hy=>by
   rcases h.opens y hy with h|⟨t,ht,_⟩
   ·exact h
   ·cases ht)
  have ee:Qas D [] P s i j d=P1.top s (Pe s i j d):=by
   show (match P.X7 s i j with|some P1=>P1.top s (Pe s i j d)|none=>none)=_;rw[e1]
  rw[ee,List.nil_append,List.append_nil];exact (P8.since (k:=0) (k':=3) p ht).more (by simp)
 |t::way,l,s,O,H,P,L,Rr,i,j,d,V,X,W,h=>by
  obtain⟨P1,e1,K1,I,hs,b0,p,E⟩:=Qil h;have b3:Iy (l:Int)*2=Iw (l:Int)/\3<=Iy (l:Int):=by unfold Iy Iw;split<;>omega
  obtain⟨R,T,x,L',R',g1,U,g3,g4,g5,g6,g7,g8,g9,Y,Z,a1,a8⟩:=b0;have J:=Qa1 I;have K:=Qbm I;have hk:=q13 g5 (by rw[g1];show ¬((l+1:Nat):Int)=0;omega);have g:=hk.2.2.2.2.1;have u:=hk.2.2.2.1;rw[g1] at g u;have g:((R++x::T).map Qy).length<=12:=g;have u:2<=((R++x::T).map Qy).length:=u;simp only[List.length_map,List.length_append,List.length_cons] at g u;have hi:=h.high;rw[List.length_cons] at hi;have Q:=h.least (by simp);have a6:=h.most;have hO:∀z∈O,(s.shared=false/\z=s.addr)\/(t.shared=false/\z=t.addr)\/∃t'∈way,t'.shared=false/\z=t'.addr:=λz q=>by
   rcases h.opens z q with hx|⟨t',a7,hx⟩
   ·exact .inl hx
   ·rcases List.mem_cons.1 a7 with e|a7
    ·rw[e] at hx;exact .inr (.inl hx)
    ·exact .inr (.inr ⟨t',a7,hx⟩)
  have ih:=λ{O H:List Int} {P:Pl} {i j:Nat} {d:Nd} {V X W:List (List Qq)} (e:Qmk D S0 C0 O H H0 P (l+1) t way L' R' i j d V X W)=>Qgh way e
  have G:=h.rise;have F:=h.fine;have f:=h.few;have a2:=h.H0s;have ee:Qas D (t::way) P s i j d=match P1.have_ D s (Pe s i j d) t with
    |some (x,P2)=>match P2.Tq x with
     |some (P3,some ks)=>Qas D way P3 t x.i x.j ⟨x.N.lvl+1,[],ks⟩
     |some (P3,none)=>some (P3,none)
     |none=>none
    |none=>none:=by
   show (match P.X7 s i j with|some P1=>_|none=>none)=_;rw[e1];rfl
  generalize hM:V++(X++W)=M at I K Q a6 G F f E;generalize b2:Pe s i j d=b at I J K K1 ee;rw[ee];unfold Pl.have_;by_cases c1:Iy b.lvl<=b.size
  ·-- enough
   rw[if_pos c1];dsimp only;have m:L++(M.flatten++Rr)=(L'++rowOf R)++(M.flatten++(rowOf T++R')):=by rw[Z,a1]
   rw[m] at G F f ⊢;have b1:=Qpa (H0:=H0) K1 (l:=l) (t:=t) (way:=way) (L':=L') (R':=R') (N:=b) (M:=M) (olds:=[s]) (A:=R) (B:=[x]) (C:=T) I (by rw[J,K] at c1;exact c1) (by omega) (λz q=>by rw[List.mem_singleton.1 q];exact hs) (List.pairwise_singleton _ _)
    (by rw[g1];rfl) (λz q=>g7 z (List.mem_append_left _ q)) (λz q=>g7 z (List.mem_append_right _ q)) g9 Y (λa _ _=>by
     have e:(Lh (t::way) H0).count (a:Int)=(own t).count (a:Int)+((if t.shared=true then [] else (Ls t t.next (t.next+1)).named).count (a:Int)+(Lh way H0).count (a:Int)):=by
      show (own t++((if t.shared=true then [] else (Ls t t.next (t.next+1)).named)++Lh way H0)).count _=_;rw[List.count_append,List.count_append]
     rw[Pz g1 U] at e;rw[List.flatMap_cons,List.flatMap_nil,List.append_nil];simp only[List.count_append,e])
    (λz q=>by
     rcases hO z q with h|h
     ·exact .inl ⟨s,List.mem_singleton.2 rfl,h⟩
     ·exact .inr h)
    (by simp) (by simp;omega) (by simp;omega) (λhw=>by have:=g6 hw;simp;omega) G F f E a2 (by omega)
   have:=Qeh (x:=⟨b,[s],t.next,t.next+1⟩) (n:=b.lvl+1) (by rw[U];exact b1) ih;rw[<-U] at this;exact (P8.since (k:=0) p this).more (by rw[List.length_cons];omega)
  ·rw[if_neg c1];rw[J,K] at c1;by_cases c2:0<t.next
   ·-- the neighbour ahead
    rw[if_pos c2];obtain⟨A,y,rfl⟩:∃A y,R=A++[y]:=⟨R.dropLast,R.getLast (λe=>by rw[U,e] at c2;cases c2),(List.dropLast_concat_getLast _).symm⟩;have m:L++(M.flatten++Rr)=(L'++rowOf A)++((if true=true then y.2++M.flatten else M.flatten++y.2)++(rowOf T++R')):=by
     rw[Z,a1,Oz,row_one,if_pos rfl];simp only[List.append_assoc]
    rw[m] at G F f ⊢;simp only[List.length_append,List.length_cons,List.length_nil] at U g6 g u;obtain⟨P2,O2,nb,j1,j2,j3,j4,j5⟩:=Qjx (H0:=H0) true (x:=x) (y:=y) (A:=A) (C:=T) K1 a2 (by omega) (by rw[g1];simp) (by rw[U];rfl) g4 (by omega) (λhw=>by have:=g6 hw;omega) (λz q=>g7 z (by simp[q])) (λz q=>g7 z (by simp[q])) (g7 y (by simp)) (a8 y (by simp)) g9 hs Y I (by omega) (by omega) hO G F f E;rw[if_pos rfl] at j1 j2;rw[j1,<-j2];simp only[if_true] at j5;simp only[Option.map_some];have en:t.next-1=A.length/\t.next+1=A.length+2:=by omega
    rw[en.1,en.2,j3];have:=Qeh (n:=(l:Int)+1) j5 ih;exact (P8.since (k:=0+0) (p.trans j4) this).more (by rw[List.length_cons];omega)
   ·-- the neighbour behind
    rw[if_neg c2];obtain rfl:R=[]:=List.eq_nil_of_length_eq_zero (by omega);obtain⟨y,C,rfl⟩:∃y C,T=y::C:=by
     match T,u with
     |y::C,_=>exact⟨y,C,rfl⟩
     |[],h=>simp at h
    have m:L++(M.flatten++Rr)=(L'++rowOf [])++((if false=true then y.2++M.flatten else M.flatten++y.2)++(rowOf C++R')):=by
     rw[Z,a1,if_neg (by decide)];have:rowOf (y::C)=y.2++rowOf C:=by rw[show y::C=[y]++C from rfl,Oz,row_one]
     rw[this];simp only[List.append_assoc]
    rw[m] at G F f ⊢;simp only[List.length_cons,List.length_nil] at U g6 g u;obtain⟨P2,O2,nb,j1,j2,j3,j4,j5⟩:=Qjx (H0:=H0) false (x:=x) (y:=y) (A:=[]) (C:=C) K1 a2 (by omega) (by rw[g1];simp) (by rw[U];rfl) g4 (by simp;omega) (λhw=>by have:=g6 hw;simp;omega) (λz q=>by cases q) (λz q=>g7 z (by simp[q])) (g7 y (by simp)) (a8 y (by simp)) g9 hs Y I (by omega) (by omega) hO G F f E;rw[if_neg (by decide)] at j1 j2;rw[j1,<-j2];simp only[Bool.false_eq_true,if_false] at j5;simp only[Option.map_some];have en:t.next=([]:List Zv).length/\t.next+2=([]:List Zv).length+2:=by simp;omega
    rw[en.2,J];have e3:t.next=([]:List Zv).length:=en.1;rw[e3];have:=Qeh (n:=(l:Int)+1) j5 ih;exact (P8.since (k:=0+0) (p.trans j4) this).more (by rw[List.length_cons];omega)
end
theorem Qlf {R:Int->Nd × Int}:∀{l:Nat} {a:Int} {its d:List Qq},Qe R l a its->Qe R l a d->its=d
 |0,a,its,d,h,h'=>by
  have e:=h.1.symm.trans h'.1;injection e with g _;injection g
 |l+1,a,its,d,h,h'=>by
  obtain⟨kids,parts,h1,h2,I,rfl,B⟩:=h;obtain⟨u,f,m,z,A,rfl,p⟩:=h';have e:=h1.symm.trans m;injection e with g _;injection g with _ _ y;subst y;congr 1
  apply List.ext_getElem
  ·omega
  ·intro j E q;have F:=(B j (by omega)).1;have G:=(p j (by omega)).1;have:=Qlf F G;rw[List.getD_eq_getElem?_getD,List.getElem?_eq_getElem E,List.getD_eq_getElem?_getD,List.getElem?_eq_getElem q] at this;exact this
theorem row_mem {G:List Zv}{x:Qq}(h:x∈rowOf G):∃q,∃d:q<G.length,x∈(G[q]).2:=by
 obtain⟨t,f,g⟩:=Io.1 h;obtain⟨q,d,e⟩:=List.getElem_of_mem f;exact⟨q,d,by rw[e];exact g⟩
theorem Qwu {R:Int->Nd × Int}{l:Nat}{G:List Zv}(K:∀x∈G,good1 R l x)(A:Zt (rowOf G))(h0:G≠[])(k:Kd) :
  ∃j,(⟨((l+1:Nat):Int),[],G.map Qy⟩:Nd).Xv k=j/\j<G.length/\(∀x∈rowOf (G.take j),x.k.less k=true)/\(∀x∈rowOf (G.drop (j+1)),k.less x.k=true):=by
 have Q:(⟨((l+1:Nat):Int),[],G.map Qy⟩:Nd).Xv k=lastTo ((G.map Qy).map (·.k)) k (G.map Qy).length:=by
  unfold Nd.Xv;have:¬((l+1:Nat):Int)=0:=by omega
  dsimp only;rw[if_neg this,Gy,List.length_map]
 obtain⟨j,F⟩:∃j,lastTo ((G.map Qy).map (·.k)) k (G.map Qy).length=j:=⟨_,rfl⟩;have T:0<G.length:=List.length_pos_iff.2 h0;have M:(G.map Qy).length=G.length:=List.length_map ..;have f:j<G.length:=by
  rcases D7 ((G.map Qy).map (·.k)) k (G.map Qy).length with e|e<;>omega
 have m:∀q (g:q<G.length),keyAt ((G.map Qy).map (·.k)) q=(Qx (G[q]).2 0).k:=λq g=>by
  rw[D8 _ (by omega),Ew g];rfl
 have p:∀q (g:q<G.length),∃y r,(G[q]).2=y::r:=λq g=>Et (K _ (List.getElem_mem g)).1
 have A:Zt (G.map (·.2)).flatten:=A;refine⟨j,by rw[Q,F],f,λx d=>?_,λx d=>?_⟩
 ·obtain⟨q,g,d⟩:=row_mem d;rw[List.getElem_take] at d;rw[List.length_take] at g;obtain⟨z,s,E⟩:=p j f;have J:x.k.less z.k=true:=Dk (parts:=G.map (·.2)) A (i:=q) (j:=j) (by omega) (by rw[List.length_map];omega) (by rw[Uu (by omega)];exact d) (by rw[Uu f,E];exact List.mem_cons_self ..);have u:k.less z.k=false:=by
   have:=Qel ((G.map Qy).map (·.k)) k (G.map Qy).length (by omega);rw[F,m j f,E] at this;exact this
  exact Qi0 J u
 ·obtain⟨q,g,d⟩:=row_mem d;rw[List.getElem_drop] at d;rw[List.length_drop] at g;obtain⟨y,r,B⟩:=p (j+1+q) (by omega);have u:k.less y.k=true:=by
   have:=Qff ((G.map Qy).map (·.k)) k (G.map Qy).length (j+1+q) (by omega) (by omega);rw[m _ (by omega),B] at this;exact this
  rw[B] at d;rcases List.mem_cons.1 d with rfl|d
  ·exact u
  ·have I:=Ij A (j+1+q);rw[Uu (by omega),B] at I;exact Kd.trans _ _ _ u ((List.pairwise_cons.1 I).1 x d)
theorem Qqk {R:Int->Nd × Int}{l:Nat}{GL GR:List Zv}{x:Zv}(q:∀y∈GL++x::GR,good1 R l y)(g:Zt (rowOf (GL++x::GR))):∀y∈GL++GR,y.1≠x.1:=λy u e=>by
 have f:=(q y (by rcases List.mem_append.1 u with h|h<;>simp[h])).1;have d:=(q x (by simp)).1;rw[e] at f;have m:=Qlf f d;obtain⟨z,s,p⟩:=Et d;rcases List.mem_append.1 u with h|h
 ·obtain⟨A,B,rfl⟩:=List.append_of_mem h;rw[List.append_assoc,Oz] at g;have h1:=(Lr g).2;have h2:rowOf (y::B++x::GR)=y.2++(rowOf B++(x.2++rowOf GR)):=by
   rw[Oz,show y::B=[y]++B from rfl,Oz,row_one,show x::GR=[x]++GR from rfl,Oz,row_one,List.append_assoc]
  rw[h2,m,p] at h1;have:=(List.pairwise_append.1 h1).2.2 z (List.mem_cons_self ..) z (List.mem_append_right _ (List.mem_append_left _ (List.mem_cons_self ..)));rw[Qbq] at this
  cases this
 ·obtain⟨A,B,rfl⟩:=List.append_of_mem h;rw[Oz] at g;have h1:=(Lr g).2;have h2:rowOf (x::(A++y::B))=x.2++(rowOf A++(y.2++rowOf B)):=by
   rw[show x::(A++y::B)=[x]++(A++([y]++B)) from rfl,Oz,row_one,Oz,Oz,row_one]
  rw[h2,m,p] at h1;have:=(List.pairwise_append.1 h1).2.2 z (List.mem_cons_self ..) z (List.mem_append_right _ (List.mem_append_left _ (List.mem_cons_self ..)));rw[Qbq] at this
  cases this
section
variable {D:DM}{S0:Sp}{C0:Ct}{O H H0:List Int}{P:Pl}
theorem Wj.next {l:Nat}{s:Zz}{way:List Zz}{L Rr:List Qq}(h:Wj P D O l s way L Rr)(j:Nat):Wj P D O l { s with next:=j } way L Rr:=by
 cases way with
 |nil=>exact h
 |cons t way=>exact h
structure At (D:DM)(S0:Sp)(C0:Ct)(O H H0:List Int)(P:Pl)(l:Nat)(s:Zz)(up:List Zz)(L Rr:List Qq)(M:List (List Qq)):Prop where
 keep:Keep D S0 C0 O H P
 spot:Zh P D O (l:Int) s
 way:Wj P D O l s up L Rr
 held:∀a:Nat,0<a->a<P.C.n->H.count (a:Int)=(own s++((if s.shared=true then [] else s.N.named)++Lh up H0)).count (a:Int)
 opens:∀y∈O,(s.shared=false/\y=s.addr)\/∃t∈up,t.shared=false/\y=t.addr
 bun:U7 (P.hide D O) l s.N M
 may:s.N.may=true
 dat:∀x∈M.flatten,Dat (P.hide D O) x
 ne:M≠[]
 enough:up≠[]->Iy (l:Int)<=M.length
theorem Qlu (K:Keep D S0 C0 O H P){l:Nat}{a:Int}{hd:Bool}{up:List Zz}{L Rr its:List Qq}(G:Qe (P.hide D O) l a its)(E:Wj P D O l (P.spot D a hd) up L Rr)
  (I:∀b:Nat,0<b->b<P.C.n->H.count (b:Int)=(own (P.spot D a hd)++Lh up H0).count (b:Int)) (hO:∀y∈O,∃t∈up,t.shared=false/\y=t.addr) (A:up≠[]->(P.hide D O a).1.enough) :
  ∃Z H' M,At D S0 C0 Z H' H0 P l (P.spot D a hd) up L Rr M/\M.flatten=its/\Since D O Z H0 P P 0:=by
 obtain⟨ho,n,hn,a1,h0⟩:=Fq (Gv G).2.2;obtain⟨T,hE⟩:=Qau G;have z:∀x∈its,Dat (P.hide D O) x:=K.dat l a its G;obtain⟨M,u,p,hL,J⟩:=K.bun G;have hN:(P.hide D O a).1=P.Qb D a:=by rw[T];rfl
 rw[hN] at u A;have m:=hL.may;rw[hN] at m;have Q:(P.Qb D a).lvl=(l:Int):=Qa1 u;by_cases d:(P.spot D a hd).shared=true
 ·refine⟨O,H,M,⟨K,⟨λ_ h2=>⟨?_,ho,Q⟩,λh=>by rw[d] at h;cases h⟩,E,λb h1 h2=>?_,λy U=>.inr (hO y U),u,m,by rw[p];exact z,J,λY=>(Qaq u).1 (A Y)⟩,p,Qca (Move.refl (l:Int) D O P) H0⟩
  ·have h2:hd=false:=h2;have F:(hd||decide (1<P.C.get a))=true:=d;rw[h2,Bool.false_or] at F;have:=of_decide_eq_true F;show 2<=P.C.get a;omega
  ·rw[if_pos d];exact I b h1 h2
 ·have F:(hd||decide (1<P.C.get a))=false:=by
   cases e:(hd||decide (1<P.C.get a)) with
   |false=>rfl
   |true=>exact absurd e d
  obtain⟨W,h5⟩:=Bool.or_eq_false_iff.1 F;have h5:=of_decide_eq_false h5;subst hn;have f:P.C.get (n:Int)=1:=by
   have:=K.nonneg (n:Int);omega
  obtain⟨c0,cn⟩:=K.first h0
  have q:own (P.spot D (n:Int) hd)=[(n:Int)]:=if_neg (by show ¬hd=true;rw[W];decide);rw[q] at I;have g:(n:Int)∈H:=List.count_pos_iff.1 (by rw[I n c0 cn,List.count_append];simp;omega);have V:=K.open_ f g ho;obtain⟨o1,o2⟩:=K.once f g;have R:(n:Int)∉Lh up H0:=Qbt (by
   rw[I n c0 cn,List.count_append] at o1;simp at o1;omega)
  rw[T] at V;have V:Keep D S0 C0 ((n:Int)::O) ((P.Qb D (n:Int)).named++H) P:=V;have B:(n:Int)∉(P.Qb D (n:Int)).kids.map (·.a):=Qtl (y:=((n:Int),its)) u G;have X:=Qf5 E W;refine⟨(n:Int)::O,_,M,⟨V,⟨λh=>absurd h d,λ_=>⟨W,List.mem_cons_self ..,Q,hE⟩⟩,E.open_ K f g X F R,λb h1 h2=>?_,λy U=>?_,Qxw K f g B u,m,by
   rw[p];exact λx hx=>Qoa (z x hx) λe=>Qpn G (z x hx _ e) rfl,J,λY=>(Qaq u).1 (A Y)⟩,p,⟨λl' a' t ha ht=>open_tree K f g l' a' t (λe=>R (e▸Qjx.restH_sub up ha)) ht,Nat.le_refl _,rfl⟩⟩
  ·rw[if_neg d,q,List.count_append,I b h1 h2];show (P.Qb D (n:Int)).named.count _+_=(_++((P.Qb D (n:Int)).named++_)).count _;simp only[List.count_append];omega
  ·rcases List.mem_cons.1 U with rfl|U
   ·exact .inl ⟨F,rfl⟩
   ·exact .inr (hO y U)
structure Qxl (D:DM)(S0:Sp)(C0:Ct)(O H0:List Int)(P:Pl)(k:Kd)(row:List Qq)(n:Nat)(W:Option (List Zz × Zz)):Prop where
 is:∃up s O' H' L Rr its A B,W=some (up,s)/\At D S0 C0 O' H' H0 P 0 s up L Rr (its.map λx=>[x])/\s.N=⟨0,its,[]⟩/\row=L++(its++Rr)/\Since D O O' H0 P P 0/\up.length<=n/\L=A/\Rr=B/\(∀x∈A,x.k.less k=true)/\∀x∈B,k.less x.k=true
theorem Qqn (k:Kd):∀(l f:Nat) {O H:List Int} {a:Int} {hd:Bool} {up:List Zz} {L Rr its:List Qq},l<=f->Keep D S0 C0 O H P->Qe (P.hide D O) l a its->Zt its->Wj P D O l (P.spot D a hd) up L Rr->
  (∀b:Nat,0<b->b<P.C.n->H.count (b:Int)=(own (P.spot D a hd)++Lh up H0).count (b:Int))->(∀y∈O,∃t∈up,t.shared=false/\y=t.addr)->(up≠[]->(P.hide D O a).1.enough)->(∀x∈L,x.k.less k=true)->(∀x∈Rr,k.less x.k=true)->
  Qxl D S0 C0 O H0 P k (L++(its++Rr)) (up.length+l) (P.Vd D k f (P.spot D a hd) up)
 |0,f,O,H,a,hd,up,L,Rr,its,hf,K,hT,hr,hup,hH,hO,hen,hL,hR=>by
  obtain⟨Q,Y,M,g,W,E⟩:=Qlu K hT hup hH hO hen;obtain⟨F,p,e2⟩:=g.bun;subst e2;rw[Nb] at W;subst W;have ew:P.Vd D k f (P.spot D a hd) up=some (up,P.spot D a hd):=by
   cases f with
   |zero=>show (if _ then _ else none)=_;rw[if_pos (by rw[p];exact Int.le_refl 0)]
   |succ f=>show (if _ then _ else _)=_;rw[if_pos (by rw[p];exact Int.le_refl 0)]
  exact⟨⟨up,_,Q,Y,L,Rr,F,L,Rr,ew,g,p,rfl,E,by omega,rfl,rfl,hL,hR⟩⟩
 |l+1,0,_,_,_,_,_,_,_,_,hf,_,_,_,_,_,_,_,_,_=>by omega
 |l+1,f+1,O,H,a,hd,up,L,Rr,its,hf,K,hT,hr,hup,hH,hO,hen,hL,hR=>by
  obtain⟨Q,Y,M,g,W,E⟩:=Qlu K hT hup hH hO hen;generalize hs:P.spot D a hd=s at g hup;obtain⟨G,p,e2,X⟩:=g.bun;subst e2;have a6:G≠[]:=λe=>g.ne (by rw[e];rfl)
  have u:rowOf G=its:=W;obtain⟨j,hj,a8,b0,b1⟩:=Qwu X (by rw[u];exact hr) a6 k;rw[<-p] at hj;obtain⟨x,hx⟩:∃x,G[j]?=some x:=⟨_,List.getElem?_eq_getElem a8⟩;obtain⟨k1,k2⟩:=Qy5 p hx;have d:G=G.take j++x::G.drop (j+1):=by
   obtain⟨_,ex⟩:=List.getElem?_eq_some_iff.1 hx;rw[<-ex,List.getElem_cons_drop,List.take_append_drop]
  have q:=X x (List.mem_of_getElem? hx);obtain⟨b6,hE⟩:=Qau q.1;have b2:(P.Qb D x.1).lvl=(l:Int):=by
   have:=(Gv q.1).2.1;rw[b6] at this;exact this
  have T:(Ql s.N.kids j).a=x.1:=by rw[k2];rfl
  have b4:P.Yc D s j=true:=by
   unfold Pl.Yc;rw[T];refine decide_eq_true ⟨k1,hE,?_⟩;rw[b2,p];show (l:Int)=((l+1:Nat):Int)-1;omega
  have a2:P.W9 D s j=P.spot D x.1 s.shared:=by unfold Pl.W9;rw[T]
  have ew:P.Vd D k (f+1) s up=P.Vd D k f (P.spot D x.1 s.shared) ({ s with next:=j }::up):=by
   show (if s.N.lvl<=0 then _ else if P.Yc D s (s.N.Xv k)=true then P.Vd D k f (P.W9 D s (s.N.Xv k)) ({ s with next:=s.N.Xv k }::up) else none)=_;rw[if_neg (by rw[p];show ¬((l+1:Nat):Int)<=0;omega),hj,if_pos b4,a2]
  rw[ew];have U:∀y∈G.take j++G.drop (j+1),y∈G:=λy I=>by
   rcases List.mem_append.1 I with h|h
   ·exact List.mem_of_mem_take h
   ·exact List.mem_of_mem_drop h
  have a7:∀y∈G.take j++G.drop (j+1),y.1≠x.1:=Qqk (R:=P.hide D Q) (l:=l) (by rw[<-d];exact X) (by rw[<-d,u];exact hr);have z:its=rowOf (G.take j)++(x.2++rowOf (G.drop (j+1))):=by
   rw[<-u,<-row_one x,<-Oz,<-Oz];exact congrArg rowOf d
  have J:Zh P D Q ((l+1:Nat):Int) { s with next:=j }:=⟨g.spot.shared,g.spot.mine⟩;have V:Wj P D Q l (P.spot D x.1 s.shared) ({ s with next:=j }::up) (L++rowOf (G.take j)) (rowOf (G.drop (j+1))++Rr):=by
   refine⟨G.take j,G.drop (j+1),x,L,Rr,?_,?_,rfl,rfl,g.may,λhu=>?_,λy I=>X y (U y I),λ_=>q.1,J,g.way.next j,rfl,rfl,a7⟩
   ·show s.N=_;rw[p,<-d]
   ·show j=(G.take j).length;rw[List.length_take];omega
   ·have h1:=g.enough hu;have e6:Iy ((l+1:Nat):Int)=6:=if_neg (by omega);rw[e6,List.length_map] at h1;rw[List.length_take,List.length_drop];omega
  have b5:(Ls { s with next:=j } j (j+1)).named=(G.take j).map (·.1)++(G.drop (j+1)).map (·.1):=by
   have:=Pz (t:={ s with next:=j }) (l:=l) (GL:=G.take j) (GR:=G.drop (j+1)) (x:=x) (by show s.N=_;rw[p,<-d]) (by show j=_;rw[List.length_take];omega);exact this
  have b3:s.N.named=G.map (·.1):=by rw[p,Na]
  have ih:=Qqn k l f (O:=Q) (H:=Y) (a:=x.1) (hd:=s.shared) (up:={ s with next:=j }::up) (L:=L++rowOf (G.take j)) (Rr:=rowOf (G.drop (j+1))++Rr) (its:=x.2) (by omega) g.keep q.1 (by
    rw[z] at hr;exact (Lr (Lr hr).2).1) V (λb h1 h2=>by
    rw[g.held b h1 h2];show _=(own (P.spot D x.1 s.shared)++(own s++((if s.shared=true then [] else (Ls { s with next:=j } j (j+1)).named)++Lh up H0))).count _;have ho:own (P.spot D x.1 s.shared)=if s.shared=true then [] else [x.1]:=rfl
    rw[ho,b5,b3];have hc:(G.map (·.1)).count (b:Int)=((G.take j).map (·.1)).count (b:Int)+([x.1].count (b:Int)+((G.drop (j+1)).map (·.1)).count (b:Int)):=by
     rw[<-List.count_append,<-List.count_append];refine congrArg (List.count (b:Int)) ?_;conv=>lhs;rw[d]
     simp
    by_cases m:s.shared=true
    ·rw[if_pos m,if_pos m,if_pos m];simp only[List.nil_append]
    ·rw[if_neg m,if_neg m,if_neg m];simp only[List.count_append,hc];omega) (λy I=>by
    rcases g.opens y I with⟨h1,h2⟩|⟨t,h1,h2⟩
    ·exact⟨{ s with next:=j },List.mem_cons_self ..,h1,h2⟩
    ·exact⟨t,List.mem_cons_of_mem _ h1,h2⟩) (λ_=>q.2.1) (λy I=>by
    rcases List.mem_append.1 I with h|h
    ·exact hL y h
    ·exact b0 y h) (λy I=>by
    rcases List.mem_append.1 I with h|h
    ·exact b1 y h
    ·exact hR y h)
  obtain⟨b8,s',a1,Z,L',R',F,A,B,i1,i2,i3,i4,i5,i6,i7,i8,i9,b7⟩:=ih.is;refine⟨⟨b8,s',a1,Z,L',R',F,A,B,i1,i2,i3,?_,(E.trans i5),by rw[List.length_cons] at i6;omega,i7,i8,i9,b7⟩⟩;rw[<-i4,z];simp only[List.append_assoc]
end
