/- The way up, node by node: what Put and Delete leave -/
import Derived.Test.YtnnbaihfboacoaaGreatDoorEu34
namespace Go.Proofs.YtnnbaihfboacoaaGreatDoor
open Go Go.RowKit Go.Proofs
section
variable {D:DM}{S0:Sp}{C0:Ct}{O H H0:List Int}{P:Pl}
theorem qq3 {R:Int->Nd × Int}{l:Nat}{N:Nd}{M:List (List Qc)}(d:Yr R l N M){y:Zw}(m:Qp R l y.1 y.2):y.1∉N.kids.map (·.a):=by
 cases l with
 |zero=>
  obtain⟨its,rfl,_⟩:=d;simp
 |succ l=>
  obtain⟨G,rfl,_,f⟩:=d;intro h;obtain⟨z,p,e⟩:=List.mem_map.1 h;obtain⟨g,b,rfl⟩:=List.mem_map.1 p;have h1:=(Fq (f g b).1).2.1;have h2:=(Fq m).2.1;have e:g.1=y.1:=e;rw[e] at h1;omega
theorem q4w {a:Int}{X:List Int}(h:X.count a=0):a∉X:=λhm=>by
 have:=List.count_pos_iff.2 hm;omega
theorem qej (left:Bool){l:Nat}{s t:Qu}{way:List Qu}{L' R':List Qc}{b:Nd}{M:List (List Qc)}{A C:List Zw}{x y:Zw}(K:Keep D S0 C0 O (own s++(b.named++Zu (t::way) H0)) P)(c7:H0.length<=10000)(hi:l+1+way.length<=7)
  (hG:t.N=⟨((l+1:Nat):Int),[],(A++((if left=true then [y,x] else [x,y])++C)).map Qn⟩) (hn:t.next=A.length+if left=true then 1 else 0) (d7:s.held=t.shared) (hm:A.length+2+C.length<=12) (c8:way≠[]->6<=A.length+2+C.length)
  (hA:∀z∈A,good1 (P.hide D O) l z) (hC:∀z∈C,good1 (P.hide D O) l z) (hy:good1 (P.hide D O) l y) (a7:y.1≠s.addr) (ht:Zv P D O ((l+1:Nat):Int) t) (hs:Zv P D O (l:Int) s) (c6:Y1 P D O (l+1) t way L' R')
  (hb:Yr (P.hide D O) l b M) (d3:Qr (l:Int)<=M.length+1) (d4:M.length<Qr (l:Int))
  (hO:∀z∈O,(s.shared=false/\z=s.addr)\/(t.shared=false/\z=t.addr)\/∃t'∈way,t'.shared=false/\z=t'.addr)
  (hr:Qd ((L'++rowOf A)++((if left=true then y.2++M.flatten else M.flatten++y.2)++(rowOf C++R')))) (hf:∀z∈(L'++rowOf A)++((if left=true then y.2++M.flatten else M.flatten++y.2)++(rowOf C++R')),Ze z) (b5:((L'++rowOf A)++((if left=true then y.2++M.flatten else M.flatten++y.2)++(rowOf C++R'))).length<=1000) :
  ∃u T f,P.near D t (if left=true then t.next-1 else t.next+1)=some u/\f=P.Jj D t (if left=true then t.next-1 else t.next+1)/\f.N.lvl=(l:Int)/\Since D O T H0 P u 0/\
   ((∃P3 ks O3 H3 Mc,u.Y7 ⟨Jd (l:Int) (if left=true then [f.N,b] else [b,f.N]),(if left=true then [f,s] else [s,f]),A.length,A.length+2⟩=some (P3,some ks)/\Ei D S0 C0 O3 H3 H0 P3 (l+1) t way L' R' A.length (A.length+2) ⟨(l:Int)+1,[],ks⟩ (A.map (·.2)) Mc (C.map (·.2))/\Since D T O3 H0 u P3 2/\
   L'++((A.map (·.2)++(Mc++C.map (·.2))).flatten++R')=(L'++rowOf A)++((if left=true then y.2++M.flatten else M.flatten++y.2)++(rowOf C++R')))\/(∃P3,u.Y7 ⟨Jd (l:Int) (if left=true then [f.N,b] else [b,f.N]),(if left=true then [f,s] else [s,f]),A.length,A.length+2⟩=some (P3,none)/\u.C.free<2)):=by
 have d5:Qr (l:Int)*2=Qq (l:Int)/\3<=Qr (l:Int)/\Qq (l:Int)<=12:=by unfold Qr Qq;split<;>omega
 have b6:∀z∈y.2,Ze z:=λz d=>hf z (by
  refine List.mem_append_right _ (List.mem_append_left _ ?_);split
  ·exact List.mem_append_left _ d
  ·exact List.mem_append_right _ d)
 have b4:∀z∈M.flatten,Ze z:=λz d=>hf z (by
  refine List.mem_append_right _ (List.mem_append_left _ ?_);split
  ·exact List.mem_append_right _ d
  ·exact List.mem_append_left _ d)
 have hq:(A++((if left=true then [y,x] else [x,y])++C))[if left=true then t.next-1 else t.next+1]?=some y:=by
  rw[hn]
  cases left
  ·simp
  ·simp
 have J:∀a,(Zx t t.next (t.next+1)).named.count a=(A.map (·.1)).count a + [y.1].count a+(C.map (·.1)).count a:=λa=>by
  cases left
  ·have e:=q2i (l:=l) (GL:=A) (GR:=y::C) (x:=x) (by rw[hG];simp) (by rw[hn];rfl);rw[e];simp only[List.map_cons,List.count_append,List.count_cons,List.count_nil];omega
  ·have e:=q2i (l:=l) (GL:=A++[y]) (GR:=C) (x:=x) (by rw[hG];simp) (by rw[hn];simp);rw[e];simp only[List.map_append,List.map_cons,List.map_nil,List.count_append,List.count_cons,List.count_nil]
 have b9:∀a,(Zu (t::way) H0).count a=(own t).count a+((if t.shared=true then [] else (Zx t t.next (t.next+1)).named).count a+(Zu way H0).count a):=λa=>by
  show (own t++((if t.shared=true then [] else (Zx t t.next (t.next+1)).named)++Zu way H0)).count a=_;rw[List.count_append,List.count_append]
 have Z:t.shared=false->∀a,(own s++(b.named++Zu (t::way) H0)).count a=(own s).count a+(b.named.count a+((own t).count a+(((A.map (·.1)).count a + [y.1].count a+(C.map (·.1)).count a)+(Zu way H0).count a))):=λh a=>by
  rw[List.count_append,List.count_append,b9,h,if_neg (by decide),J]
 have a2:([y.1]:List Int).count y.1=1:=by simp
 have a1:t.shared=false->y.1∈own s++(b.named++Zu (t::way) H0):=λh=>by
  refine List.count_pos_iff.1 ?_;rw[Z h,a2];omega
 have p:t.shared=false->(own s++(b.named++Zu (t::way) H0)).count y.1=1->y.1∉A.map (·.1)/\y.1∉C.map (·.1)/\y.1∉Zu way H0/\y.1∉own t:=λh h1=>by
  rw[Z h,a2] at h1;exact⟨q4w (by omega),q4w (by omega),q4w (by omega),q4w (by omega)⟩
 obtain⟨_,_,n,en,_,d2⟩:=q32 (Fq hy.1).2.2;have a8:t.shared=false->P.C.get y.1=1->(own s++(b.named++Zu (t::way) H0)).count y.1=1:=λh h1=>by
  have:=a1 h;rw[en] at this h1 ⊢;exact (K.once h1 this).1
 have n3:=qap (H0:=H0) c6;have n4:(own s).length<=1:=by unfold own;split<;>simp
 have n5:=(O7 hb λz d=>(b4 z d).2.2).2.2;have n6:(own t).length<=1:=by unfold own;split<;>simp
 have n7:(Zx t t.next (t.next+1)).named.length<=12:=by
  cases left
  ·have e:=q2i (l:=l) (GL:=A) (GR:=y::C) (x:=x) (by rw[hG];simp) (by rw[hn];rfl);rw[e];simp;omega
  ·have e:=q2i (l:=l) (GL:=A++[y]) (GR:=C) (x:=x) (by rw[hG];simp) (by rw[hn];simp);rw[e];simp;omega
 have b7:(own s++(b.named++Zu (t::way) H0)).length<=20000:=by
  have e:(Zu (t::way) H0).length<=1+(12+(Zu way H0).length):=by
   show (own t++((if t.shared=true then [] else (Zx t t.next (t.next+1)).named)++Zu way H0)).length<=_;rw[List.length_append,List.length_append];split
   ·rw[List.length_nil];omega
   ·omega
  rw[List.length_append,List.length_append];omega
 obtain⟨u,T,F,e1,NB,U,E,b2,b3,b8⟩:=qq1 K (H0:=H0) hG hq hy ht hs a7 c6 (λz d=>(b6 z d).2.2) b7 (λh1 h2=>by
  obtain⟨_,_,j3,j4⟩:=p h1 (a8 h1 h2);refine⟨a1 h1,j3,λe=>j4 ?_⟩;unfold own;rw[(ht.mine h1).1,if_neg (by decide),e];exact List.mem_singleton.2 rfl)
 generalize d6:P.Jj D t (if left=true then t.next-1 else t.next+1)=f at e1 NB U E b2 b3 b8;have I:∀z∈A++C,good1 (P.hide D O) l z->good1 (u.hide D T) l z:=λz d hg=>by
  rcases NB.once with⟨j1,_,j3,j4⟩|⟨_,j2⟩
  ·obtain⟨i1,i2,_,_⟩:=p j4 j3;refine NB.near.good (λe=>?_) hg;rcases List.mem_append.1 d with h|h
   ·exact i1 (e▸List.mem_map_of_mem h)
   ·exact i2 (e▸List.mem_map_of_mem h)
  ·exact q3m hg j2
 have a6:Yr (u.hide D T) l b M:=NB.near.Fp (qq3 hb hy.1) hb;have Y:Since D O T H0 P u 0:=⟨λl a its ha X=>by
  rcases NB.once with⟨j1,_,j3,j4⟩|⟨_,j2⟩
  ·obtain⟨_,_,i3,_⟩:=p j4 j3;exact NB.near.tree l a its (λe=>i3 (e▸restH_sub way ha)) X
  ·exact P9 j2 X,by have:=NB.free;omega,NB.n⟩
 have m:∀z∈(F++M).flatten,Ko z=none:=λz d=>by
  rw[List.flatten_append,E] at d;rcases List.mem_append.1 d with h|h
  ·exact (b6 z h).2.2
  ·exact (b4 z h).2.2
 have hJ:Yr (u.hide D T) l (Jd (l:Int) (if left=true then [f.N,b] else [b,f.N])) (if left=true then F++M else M++F):=by
  cases left
  ·have:=q6u (R:=u.hide D T) (l:=l) [(b,M),(f.N,F)] (λz d=>by
    rcases List.mem_cons.1 d with rfl|d
    ·exact a6
    ·rw[List.mem_singleton.1 d];exact U)
   simpa using this
  ·have:=q6u (R:=u.hide D T) (l:=l) [(f.N,F),(b,M)] (λz d=>by
    rcases List.mem_cons.1 d with rfl|d
    ·exact U
    ·rw[List.mem_singleton.1 d];exact a6)
   simpa using this
 have c9:∀a,(Jd (l:Int) (if left=true then [f.N,b] else [b,f.N])).named.count a=f.N.named.count a+b.named.count a:=λa=>by
  have e0:∀z∈(if left=true then F++M else M++F).flatten,Ko z=none:=λz d=>m z (by
   rw[List.flatten_append];split at d
   ·rw[List.flatten_append] at d;exact d
   ·rw[List.flatten_append] at d;rcases List.mem_append.1 d with h|h
    ·exact List.mem_append_right _ h
    ·exact List.mem_append_left _ h)
  have e2:∀z∈F.flatten,Ko z=none:=λz d=>m z (by rw[List.flatten_append];exact List.mem_append_left _ d)
  have e3:∀z∈M.flatten,Ko z=none:=λz d=>m z (by rw[List.flatten_append];exact List.mem_append_right _ d)
  rw[(O7 hJ e0).1,(O7 U e2).1,(O7 a6 e3).1];unfold Jd
  cases left
  ·simp only[Bool.false_eq_true,if_false,List.flatMap_cons,List.flatMap_nil,List.append_nil,List.map_append,List.count_append];omega
  ·simp only[if_true,List.flatMap_cons,List.flatMap_nil,List.append_nil,List.map_append,List.count_append]
 have W:(if left=true then F++M else M++F).flatten=if left=true then y.2++M.flatten else M.flatten++y.2:=by
  cases left
  ·simp[E]
  ·simp[E]
 have b1:(if left=true then F++M else M++F).length=F.length+M.length:=by
  cases left
  ·simp[Nat.add_comm]
  ·simp
 have G:(if left=true then [y,x] else [x,y]).length=2:=by cases left<;>rfl
 have b0:(own f).count=λa=>if t.shared=true then 0 else [y.1].count a:=by
  funext a
  unfold own;rw[NB.held,NB.addr];split<;>simp
 have Q:=qkd (H0:=H0) NB.keep (l:=l) (t:=t) (way:=way) (L':=L') (R':=R') (olds:=if left=true then [f,s] else [s,f]) (A:=A) (B:=if left=true then [y,x] else [x,y]) (C:=C) hJ (by rw[b1];omega) (by rw[b1];omega)
  (λz d=>by
   have:z=f\/z=s:=by
    split at d
    ·rcases List.mem_cons.1 d with h|h
     ·exact .inl h
     ·exact .inr (List.mem_singleton.1 h)
    ·rcases List.mem_cons.1 d with h|h
     ·exact .inr h
     ·exact .inl (List.mem_singleton.1 h)
   rcases this with rfl|rfl
   ·exact NB.nbk
   ·exact NB.sk)
  (by
   split
   ·exact List.pairwise_cons.2 ⟨λz d=>by rw[List.mem_singleton.1 d];exact .inr (by rw[NB.addr];exact λe=>a7 e.symm),List.pairwise_singleton _ _⟩
   ·exact List.pairwise_cons.2 ⟨λz d=>by rw[List.mem_singleton.1 d];exact .inr (by rw[NB.addr];exact a7),List.pairwise_singleton _ _⟩)
  hG (λz d=>I z (List.mem_append_left _ d) (hA z d)) (λz d=>I z (List.mem_append_right _ d) (hC z d)) NB.tk NB.up (λa _ _=>by
   have ho:((if left=true then [f,s] else [s,f]).flatMap own).count (a:Int)=(own f).count (a:Int)+(own s).count (a:Int):=by
    cases left
    ·simp[List.count_append,Nat.add_comm]
    ·simp[List.count_append]
   have d0:(own f).count (a:Int)=if t.shared=true then 0 else [y.1].count (a:Int):=congrFun b0 (a:Int)
   simp only[List.count_append,ho,d0,c9,b9];by_cases X:t.shared=true
   ·rw[if_pos X,if_pos X,if_pos X];omega
   ·rw[if_neg X,if_neg X,if_neg X,J,List.count_append];omega)
  (λz d=>by
   have d1:z=y.1/\f.shared=false\/z∈O:=by
    rcases NB.once with⟨j1,j2,_⟩|⟨j1,_⟩
    ·rw[j1] at d;rcases List.mem_cons.1 d with h|h
     ·exact .inl ⟨h,j2⟩
     ·exact .inr h
    ·rw[j1] at d;exact .inr d
   rcases d1 with⟨h1,h2⟩|h
   ·exact .inl ⟨f,by split<;>simp,h2,by rw[NB.addr];exact h1⟩
   ·rcases hO z h with⟨h1,h2⟩|h
    ·exact .inl ⟨s,by split<;>simp,h1,h2⟩
    ·exact .inr h)
  (by rw[G];omega) (by rw[G];exact hm) (by rw[G];omega) (by rw[G];exact c8) (by rw[W];exact hr) (by rw[W];exact hf) (by rw[W];exact b5) c7 hi
 rw[G,W] at Q;refine⟨u,T,f,e1,rfl,b8,Y,?_⟩;exact Q
where
 restH_sub {H0:List Int}:∀(way:List Qu) {a:Int},a∈H0->a∈Zu way H0
  |[],a,h=>h
  |t::way,a,h=>List.mem_append_right _ (List.mem_append_right _ (restH_sub way h))
end
section
variable {D:DM}{S0:Sp}{C0:Ct}{H0:List Int}
def Yf (D:DM)(S0:Sp)(C0:Ct)(O H0:List Int)(P:Pl)(its:List Qc)(k:Nat)(E:Option (Pl × Option Int)):Prop:=
 (∃b r,E=some (b,some r)/\Qaj D S0 C0 O H0 P b r its k)\/(∃b,E=some (b,none)/\P.C.free<k)
theorem Yf.since {O O':List Int}{P P':Pl}{its:List Qc}{k k':Nat}{E:Option (Pl × Option Int)}(h:Since D O O' H0 P P' k)(e:Yf D S0 C0 O' H0 P' its k' E):Yf D S0 C0 O H0 P its (k+k') E:=by
 rcases e with⟨b,r,d,f⟩|⟨b,d,f⟩
 ·exact .inl ⟨b,r,d,h.fin f⟩
 ·exact .inr ⟨b,d,by have:=h.free;omega⟩
theorem Yf.more {O:List Int}{P:Pl}{its:List Qc}{k k':Nat}{E:Option (Pl × Option Int)}(e:Yf D S0 C0 O H0 P its k E)(hk:k<=k'):Yf D S0 C0 O H0 P its k' E:=by
 rcases e with⟨d,r,f,b⟩|⟨d,f,b⟩
 ·exact .inl ⟨d,r,f,⟨b.keep,b.tree,b.old,by have:=b.free;omega,b.n⟩⟩
 ·exact .inr ⟨d,f,by omega⟩
theorem q7y {l:Nat}{t:Qu}{way:List Qu}{L' R' its:List Qc}{O:List Int}{P:Pl}{x:Px}{a b:Nat}{B E:List (List Qc)}{n:Int}
  (m:(∃d p u A f,P.Y7 x=some (d,some p)/\Ei D S0 C0 u A H0 d (l+1) t way L' R' a b ⟨n,[],p⟩ B f E/\Since D O u H0 P d 2/\L'++((B++(f++E)).flatten++R')=its)\/(∃d,P.Y7 x=some (d,none)/\P.C.free<2))
  (M:∀{O H:List Int} {P:Pl} {i j:Nat} {e:Nd} {F f G:List (List Qc)},Ei D S0 C0 O H H0 P (l+1) t way L' R' i j e F f G->Yf D S0 C0 O H0 P (L'++((F++(f++G)).flatten++R')) (2*way.length+3) (Wj D way P t i j e)) :
  Yf D S0 C0 O H0 P its (2*way.length+5) (match P.Y7 x with
    |some (d,some p)=>Wj D way d t a b ⟨n,[],p⟩
    |some (d,none)=>some (d,none)
    |none=>none):=by
 rcases m with⟨d,p,u,A,f,y,I,J,K⟩|⟨d,y,I⟩
 ·rw[y];have:=Yf.since J (M I);rw[K] at this;exact this.more (by omega)
 ·rw[y];exact .inr ⟨d,rfl,by omega⟩
theorem Rk (A B:List Zw):rowOf (A++B)=rowOf A++rowOf B:=by unfold rowOf;simp
theorem q6a (y:Zw):rowOf [y]=y.2:=by unfold rowOf;simp
theorem qaq:∀(way:List Qu) {l:Nat} {s:Qu} {O H:List Int} {P:Pl} {L Rr:List Qc} {i j:Nat} {d:Nd} {X Z Y:List (List Qc)},Ei D S0 C0 O H H0 P l s way L Rr i j d X Z Y->
  Yf D S0 C0 O H0 P (L++((X++(Z++Y)).flatten++Rr)) (2*way.length+3) (Wj D way P s i j d)
 |[],l,s,O,H,P,L,Rr,i,j,d,X,Z,Y,h=>by
  obtain⟨P1,e1,K1,J,hs,b2,u,_⟩:=qcq h;obtain⟨rfl,rfl⟩:=h.up;have I:=h.rise;have G:=h.fine;have f:=h.few;simp only[List.nil_append,List.append_nil] at I G f;have ht:=qts K1 J hs (H0:=H0) (λ_ _ _=>rfl) I G (by have:=h.high;omega) f h.most h.one (λy hy=>by
   rcases h.opens y hy with h|⟨t,ht,_⟩
   ·exact h
   ·cases ht)
  have ee:Wj D [] P s i j d=P1.top s (Ye s i j d):=by
   show (match P.Qx s i j with|some P1=>P1.top s (Ye s i j d)|none=>none)=_;rw[e1]
  rw[ee,List.nil_append,List.append_nil];exact (Yf.since (k:=0) (k':=3) u ht).more (by simp)
 |t::way,l,s,O,H,P,L,Rr,i,j,d,X,Z,Y,h=>by
  obtain⟨P1,e1,K1,J,hs,b2,u,_⟩:=qcq h;have b5:Qr (l:Int)*2=Qq (l:Int)/\3<=Qr (l:Int):=by unfold Qr Qq;split<;>omega
  obtain⟨T,U,x,L',R',g1,W,g3,g4,g5,g6,g7,g8,g9,a1,a2,a6,b1⟩:=b2;have K:=q4s J;have Q:=q5l J;have hk:=Py g5 (by rw[g1];show ¬((l+1:Nat):Int)=0;omega);have m:=hk.2.2.2.2.1;have F:=hk.2.2.2.1;rw[g1] at m F;have m:((T++x::U).map Qn).length<=12:=m;have F:2<=((T++x::U).map Qn).length:=F;simp only[List.length_map,List.length_append,List.length_cons] at m F;have hi:=h.high;rw[List.length_cons] at hi;have R:=h.least (by simp);have a8:=h.most;have hO:∀z∈O,(s.shared=false/\z=s.addr)\/(t.shared=false/\z=t.addr)\/∃t'∈way,t'.shared=false/\z=t'.addr:=λz E=>by
   rcases h.opens z E with hx|⟨t',b0,hx⟩
   ·exact .inl hx
   ·rcases List.mem_cons.1 b0 with e|b0
    ·rw[e] at hx;exact .inr (.inl hx)
    ·exact .inr (.inr ⟨t',b0,hx⟩)
  have ih:=λ{O H:List Int} {P:Pl} {i j:Nat} {d:Nd} {X Z Y:List (List Qc)} (e:Ei D S0 C0 O H H0 P (l+1) t way L' R' i j d X Z Y)=>qaq way e
  have I:=h.rise;have G:=h.fine;have f:=h.few;have a7:=h.H0s;have ee:Wj D (t::way) P s i j d=match P1.have_ D s (Ye s i j d) t with
    |some (x,P2)=>match P2.Y7 x with
     |some (P3,some ks)=>Wj D way P3 t x.i x.j ⟨x.N.lvl+1,[],ks⟩
     |some (P3,none)=>some (P3,none)
     |none=>none
    |none=>none:=by
   show (match P.Qx s i j with|some P1=>_|none=>none)=_;rw[e1];rfl
  generalize hM:X++(Z++Y)=M at J Q R a8 I G f;generalize b4:Ye s i j d=b at J K Q K1 ee;rw[ee];unfold Pl.have_;by_cases c1:Qr b.lvl<=b.size
  ·-- enough
   rw[if_pos c1];dsimp only;have p:L++(M.flatten++Rr)=(L'++rowOf T)++(M.flatten++(rowOf U++R')):=by rw[a2,a6]
   rw[p] at I G f ⊢;have b3:=qkd (H0:=H0) K1 (l:=l) (t:=t) (way:=way) (L':=L') (R':=R') (N:=b) (M:=M) (olds:=[s]) (A:=T) (B:=[x]) (C:=U) J (by rw[K,Q] at c1;exact c1) (by omega) (λz E=>by rw[List.mem_singleton.1 E];exact hs) (List.pairwise_singleton _ _)
    (by rw[g1];rfl) (λz E=>g7 z (List.mem_append_left _ E)) (λz E=>g7 z (List.mem_append_right _ E)) g9 a1 (λa _ _=>by
     have e:(Zu (t::way) H0).count (a:Int)=(own t).count (a:Int)+((if t.shared=true then [] else (Zx t t.next (t.next+1)).named).count (a:Int)+(Zu way H0).count (a:Int)):=by
      show (own t++((if t.shared=true then [] else (Zx t t.next (t.next+1)).named)++Zu way H0)).count _=_;rw[List.count_append,List.count_append]
     rw[q2i g1 W] at e;rw[List.flatMap_cons,List.flatMap_nil,List.append_nil];simp only[List.count_append,e])
    (λz E=>by
     rcases hO z E with h|h
     ·exact .inl ⟨s,List.mem_singleton.2 rfl,h⟩
     ·exact .inr h)
    (by simp) (by simp;omega) (by simp;omega) (λhw=>by have:=g6 hw;simp;omega) I G f a7 (by omega)
   have:=q7y (x:=⟨b,[s],t.next,t.next+1⟩) (n:=b.lvl+1) (by rw[W];exact b3) ih;rw[<-W] at this;exact (Yf.since (k:=0) u this).more (by rw[List.length_cons];omega)
  ·rw[if_neg c1];rw[K,Q] at c1;by_cases c2:0<t.next
   ·-- the neighbour ahead
    rw[if_pos c2];obtain⟨A,y,rfl⟩:∃A y,T=A++[y]:=⟨T.dropLast,T.getLast (λe=>by rw[W,e] at c2;cases c2),(List.dropLast_concat_getLast _).symm⟩;have p:L++(M.flatten++Rr)=(L'++rowOf A)++((if true=true then y.2++M.flatten else M.flatten++y.2)++(rowOf U++R')):=by
     rw[a2,a6,Rk,q6a,if_pos rfl];simp only[List.append_assoc]
    rw[p] at I G f ⊢;simp only[List.length_append,List.length_cons,List.length_nil] at W g6 m F;obtain⟨P2,O2,nb,j1,j2,j3,j4,j5⟩:=qej (H0:=H0) true (x:=x) (y:=y) (A:=A) (C:=U) K1 a7 (by omega) (by rw[g1];simp) (by rw[W];rfl) g4 (by omega) (λhw=>by have:=g6 hw;omega) (λz E=>g7 z (by simp[E])) (λz E=>g7 z (by simp[E])) (g7 y (by simp)) (b1 y (by simp)) g9 hs a1 J (by omega) (by omega) hO I G f;rw[if_pos rfl] at j1 j2;rw[j1,<-j2];simp only[if_true] at j5;simp only[Option.map_some];have en:t.next-1=A.length/\t.next+1=A.length+2:=by omega
    rw[en.1,en.2,j3];have:=q7y (n:=(l:Int)+1) j5 ih;exact (Yf.since (k:=0+0) (u.trans j4) this).more (by rw[List.length_cons];omega)
   ·-- the neighbour behind
    rw[if_neg c2];obtain rfl:T=[]:=List.eq_nil_of_length_eq_zero (by omega);obtain⟨y,C,rfl⟩:∃y C,U=y::C:=by
     match U,F with
     |y::C,_=>exact⟨y,C,rfl⟩
     |[],h=>simp at h
    have p:L++(M.flatten++Rr)=(L'++rowOf [])++((if false=true then y.2++M.flatten else M.flatten++y.2)++(rowOf C++R')):=by
     rw[a2,a6,if_neg (by decide)];have:rowOf (y::C)=y.2++rowOf C:=by rw[show y::C=[y]++C from rfl,Rk,q6a]
     rw[this];simp only[List.append_assoc]
    rw[p] at I G f ⊢;simp only[List.length_cons,List.length_nil] at W g6 m F;obtain⟨P2,O2,nb,j1,j2,j3,j4,j5⟩:=qej (H0:=H0) false (x:=x) (y:=y) (A:=[]) (C:=C) K1 a7 (by omega) (by rw[g1];simp) (by rw[W];rfl) g4 (by simp;omega) (λhw=>by have:=g6 hw;simp;omega) (λz E=>by cases E) (λz E=>g7 z (by simp[E])) (g7 y (by simp)) (b1 y (by simp)) g9 hs a1 J (by omega) (by omega) hO I G f;rw[if_neg (by decide)] at j1 j2;rw[j1,<-j2];simp only[Bool.false_eq_true,if_false] at j5;simp only[Option.map_some];have en:t.next=([]:List Zw).length/\t.next+2=([]:List Zw).length+2:=by simp;omega
    rw[en.2,K];have e3:t.next=([]:List Zw).length:=en.1;rw[e3];have:=q7y (n:=(l:Int)+1) j5 ih;exact (Yf.since (k:=0+0) (u.trans j4) this).more (by rw[List.length_cons];omega)
end
theorem qgd {R:Int->Nd × Int}:∀{l:Nat} {a:Int} {its b:List Qc},Qp R l a its->Qp R l a b->its=b
 |0,a,its,b,h,h'=>by
  have e:=h.1.symm.trans h'.1;injection e with f _;injection f
 |l+1,a,its,b,h,h'=>by
  obtain⟨kids,parts,h1,h2,K,rfl,F⟩:=h;obtain⟨y,d,m,B,E,rfl,p⟩:=h';have e:=h1.symm.trans m;injection e with f _;injection f with _ _ A;subst A;congr 1
  apply List.ext_getElem
  ·omega
  ·intro j G u;have I:=(F j (by omega)).1;have J:=(p j (by omega)).1;have:=qgd I J;rw[List.getD_eq_getElem?_getD,List.getElem?_eq_getElem G,List.getD_eq_getElem?_getD,List.getElem?_eq_getElem u] at this;exact this
theorem qq4 {G:List Zw}{x:Qc}(h:x∈rowOf G):∃q,∃b:q<G.length,x∈(G[q]).2:=by
 obtain⟨t,d,f⟩:=qa9.1 h;obtain⟨q,b,e⟩:=List.getElem_of_mem d;exact⟨q,b,by rw[e];exact f⟩
theorem qq5 {R:Int->Nd × Int}{l:Nat}{G:List Zw}(K:∀x∈G,good1 R l x)(A:Qd (rowOf G))(h0:G≠[])(k:Kd) :
  ∃j,(⟨((l+1:Nat):Int),[],G.map Qn⟩:Nd).Za k=j/\j<G.length/\(∀x∈rowOf (G.take j),x.k.less k=true)/\(∀x∈rowOf (G.drop (j+1)),k.less x.k=true):=by
 have Q:(⟨((l+1:Nat):Int),[],G.map Qn⟩:Nd).Za k=lastTo ((G.map Qn).map (·.k)) k (G.map Qn).length:=by
  unfold Nd.Za;have:¬((l+1:Nat):Int)=0:=by omega
  dsimp only;rw[if_neg this,q4n,List.length_map]
 obtain⟨j,F⟩:∃j,lastTo ((G.map Qn).map (·.k)) k (G.map Qn).length=j:=⟨_,rfl⟩;have T:0<G.length:=List.length_pos_iff.2 h0;have M:(G.map Qn).length=G.length:=List.length_map ..;have d:j<G.length:=by
  rcases q75 ((G.map Qn).map (·.k)) k (G.map Qn).length with e|e<;>omega
 have m:∀q (f:q<G.length),keyAt ((G.map Qn).map (·.k)) q=(Qj (G[q]).2 0).k:=λq f=>by
  rw[q4o _ (by omega),qdo f];rfl
 have p:∀q (f:q<G.length),∃y r,(G[q]).2=y::r:=λq f=>q39 (K _ (List.getElem_mem f)).1
 have A:Qd (G.map (·.2)).flatten:=A;refine⟨j,by rw[Q,F],d,λx b=>?_,λx b=>?_⟩
 ·obtain⟨q,f,b⟩:=qq4 b;rw[List.getElem_take] at b;rw[List.length_take] at f;obtain⟨z,s,E⟩:=p j d;have J:x.k.less z.k=true:=q5c (parts:=G.map (·.2)) A (i:=q) (j:=j) (by omega) (by rw[List.length_map];omega) (by rw[q5d (by omega)];exact b) (by rw[q5d d,E];exact List.mem_cons_self ..);have u:k.less z.k=false:=by
   have:=q5s ((G.map Qn).map (·.k)) k (G.map Qn).length (by omega);rw[F,m j d,E] at this;exact this
  exact qc5 J u
 ·obtain⟨q,f,b⟩:=qq4 b;rw[List.getElem_drop] at b;rw[List.length_drop] at f;obtain⟨y,r,B⟩:=p (j+1+q) (by omega);have u:k.less y.k=true:=by
   have:=q53 ((G.map Qn).map (·.k)) k (G.map Qn).length (j+1+q) (by omega) (by omega);rw[m _ (by omega),B] at this;exact this
  rw[B] at b;rcases List.mem_cons.1 b with rfl|b
  ·exact u
  ·have I:=q3j A (j+1+q);rw[q5d (by omega),B] at I;exact Kd.trans _ _ _ u ((List.pairwise_cons.1 I).1 x b)
theorem qic {R:Int->Nd × Int}{l:Nat}{GL GR:List Zw}{x:Zw}(u:∀y∈GL++x::GR,good1 R l y)(f:Qd (rowOf (GL++x::GR))):∀y∈GL++GR,y.1≠x.1:=λy E e=>by
 have d:=(u y (by rcases List.mem_append.1 E with h|h<;>simp[h])).1;have b:=(u x (by simp)).1;rw[e] at d;have m:=qgd d b;obtain⟨z,s,p⟩:=q39 b;rcases List.mem_append.1 E with h|h
 ·obtain⟨A,B,rfl⟩:=List.append_of_mem h;rw[List.append_assoc,Rk] at f;have h1:=(Nc f).2;have h2:rowOf (y::B++x::GR)=y.2++(rowOf B++(x.2++rowOf GR)):=by
   rw[Rk,show y::B=[y]++B from rfl,Rk,q6a,show x::GR=[x]++GR from rfl,Rk,q6a,List.append_assoc]
  rw[h2,m,p] at h1;have:=(List.pairwise_append.1 h1).2.2 z (List.mem_cons_self ..) z (List.mem_append_right _ (List.mem_append_left _ (List.mem_cons_self ..)));rw[q38] at this
  cases this
 ·obtain⟨A,B,rfl⟩:=List.append_of_mem h;rw[Rk] at f;have h1:=(Nc f).2;have h2:rowOf (x::(A++y::B))=x.2++(rowOf A++(y.2++rowOf B)):=by
   rw[show x::(A++y::B)=[x]++(A++([y]++B)) from rfl,Rk,q6a,Rk,Rk,q6a]
  rw[h2,m,p] at h1;have:=(List.pairwise_append.1 h1).2.2 z (List.mem_cons_self ..) z (List.mem_append_right _ (List.mem_append_left _ (List.mem_cons_self ..)));rw[q38] at this
  cases this
section
variable {D:DM}{S0:Sp}{C0:Ct}{O H H0:List Int}{P:Pl}
theorem Y1.next {l:Nat}{s:Qu}{way:List Qu}{L Rr:List Qc}(h:Y1 P D O l s way L Rr)(j:Nat):Y1 P D O l { s with next:=j } way L Rr:=by
 cases way with
 |nil=>exact h
 |cons t way=>exact h
structure At (D:DM)(S0:Sp)(C0:Ct)(O H H0:List Int)(P:Pl)(l:Nat)(s:Qu)(up:List Qu)(L Rr:List Qc)(M:List (List Qc)):Prop where
 keep:Keep D S0 C0 O H P
 spot:Zv P D O (l:Int) s
 way:Y1 P D O l s up L Rr
 held:∀a:Nat,0<a->a<P.C.n->H.count (a:Int)=(own s++((if s.shared=true then [] else s.N.named)++Zu up H0)).count (a:Int)
 opens:∀y∈O,(s.shared=false/\y=s.addr)\/∃t∈up,t.shared=false/\y=t.addr
 Fp:Yr (P.hide D O) l s.N M
 may:s.N.may=true
 ne:M≠[]
 enough:up≠[]->Qr (l:Int)<=M.length
theorem qge (K:Keep D S0 C0 O H P){l:Nat}{a:Int}{hd:Bool}{up:List Qu}{L Rr its:List Qc}(X:Qp (P.hide D O) l a its)(hb:∀x∈its,Ko x=none)(G:Y1 P D O l (P.spot D a hd) up L Rr)
  (J:∀b:Nat,0<b->b<P.C.n->H.count (b:Int)=(own (P.spot D a hd)++Zu up H0).count (b:Int)) (hO:∀y∈O,∃t∈up,t.shared=false/\y=t.addr) (E:up≠[]->(P.hide D O a).1.enough) :
  ∃O' H' M,At D S0 C0 O' H' H0 P l (P.spot D a hd) up L Rr M/\M.flatten=its/\Since D O O' H0 P P 0:=by
 obtain⟨ho,he,n,hn,a2,h0⟩:=q32 (Fq X).2.2;have a1:P.hide D O a=P.store D a:=q1z ho;obtain⟨M,u,B,hL,Q⟩:=K.Fp X;have hN:(P.hide D O a).1=P.Qh D a:=by rw[a1];rfl
 rw[hN] at u E;have p:=hL.may;rw[hN] at p;have R:(P.Qh D a).lvl=(l:Int):=q4s u;by_cases d:(P.spot D a hd).shared=true
 ·refine⟨O,H,M,⟨K,⟨λ_ h2=>⟨?_,ho,R⟩,λh=>by rw[d] at h;cases h⟩,G,λb h1 h2=>?_,λy U=>.inr (hO y U),u,p,Q,λhu=>(q3n u).1 (E hu)⟩,B,q7x (Move.refl (l:Int) D O P) H0⟩
  ·have h2:hd=false:=h2;have I:(hd||decide (1<P.C.get a))=true:=d;rw[h2,Bool.false_or] at I;have:=of_decide_eq_true I;show 2<=P.C.get a;omega
  ·rw[if_pos d];exact J b h1 h2
 ·have I:(hd||decide (1<P.C.get a))=false:=by
   cases e:(hd||decide (1<P.C.get a)) with
   |false=>rfl
   |true=>exact absurd e d
  obtain⟨W,h5⟩:=Bool.or_eq_false_iff.1 I;have h5:=of_decide_eq_false h5;subst hn;have f:P.C.get (n:Int)=1:=by
   have:=K.nonneg (n:Int);omega
  obtain⟨c0,cn⟩:=K.first h0
  have A:own (P.spot D (n:Int) hd)=[(n:Int)]:=if_neg (by show ¬hd=true;rw[W];decide);rw[A] at J;have m:(n:Int)∈H:=List.count_pos_iff.1 (by rw[J n c0 cn,List.count_append];simp;omega);have K1:=K.open_ f m ho;obtain⟨o1,o2⟩:=K.once f m;have T:(n:Int)∉Zu up H0:=q4w (by
   rw[J n c0 cn,List.count_append] at o1;simp at o1;omega)
  have Z:(P.Qh D (n:Int)).named=(P.Qh D (n:Int)).kids.map (·.a):=(O7 u (by rw[B];exact hb)).1;rw[<-Z] at K1;have F:(n:Int)∉(P.Qh D (n:Int)).kids.map (·.a):=qq3 (y:=((n:Int),its)) u X;have Y:=qed G W;refine⟨(n:Int)::O,_,M,⟨K1,⟨λh=>absurd h d,λ_=>⟨W,List.mem_cons_self ..,R⟩⟩,G.open_ K f m Y I T,λb h1 h2=>?_,λy U=>?_,qtt K f m F u,p,Q,λhu=>(q3n u).1 (E hu)⟩,B,⟨λl' a' t ha ht=>q4r K f m l' a' t (λe=>T (e▸qej.restH_sub up ha)) ht,Nat.le_refl _,rfl⟩⟩
  ·rw[if_neg d,A,List.count_append,J b h1 h2];show (P.Qh D (n:Int)).named.count _+_=(_++((P.Qh D (n:Int)).named++_)).count _;simp only[List.count_append];omega
  ·rcases List.mem_cons.1 U with rfl|U
   ·exact .inl ⟨I,rfl⟩
   ·exact .inr (hO y U)
structure Sj (D:DM)(S0:Sp)(C0:Ct)(O H0:List Int)(P:Pl)(k:Kd)(row:List Qc)(n:Nat)(W:Option (List Qu × Qu)):Prop where
 is:∃up s O' H' L Rr its A B,W=some (up,s)/\At D S0 C0 O' H' H0 P 0 s up L Rr (its.map λx=>[x])/\s.N=⟨0,its,[]⟩/\row=L++(its++Rr)/\Since D O O' H0 P P 0/\up.length<=n/\L=A/\Rr=B/\(∀x∈A,x.k.less k=true)/\∀x∈B,k.less x.k=true
theorem qke (k:Kd):∀(l f:Nat) {O H:List Int} {a:Int} {hd:Bool} {up:List Qu} {L Rr its:List Qc},l<=f->Keep D S0 C0 O H P->Qp (P.hide D O) l a its->(∀x∈its,Ko x=none)->Qd its->Y1 P D O l (P.spot D a hd) up L Rr->
  (∀b:Nat,0<b->b<P.C.n->H.count (b:Int)=(own (P.spot D a hd)++Zu up H0).count (b:Int))->(∀y∈O,∃t∈up,t.shared=false/\y=t.addr)->(up≠[]->(P.hide D O a).1.enough)->(∀x∈L,x.k.less k=true)->(∀x∈Rr,k.less x.k=true)->
  Sj D S0 C0 O H0 P k (L++(its++Rr)) (up.length+l) (P.Gx D k f (P.spot D a hd) up)
 |0,f,O,H,a,hd,up,L,Rr,its,hf,K,hT,hb,hr,hup,hH,hO,hen,hL,hR=>by
  obtain⟨U,H',M,p,hM,Q⟩:=qge K hT hb hup hH hO hen;obtain⟨T,F,e2⟩:=p.Fp;subst e2;rw[Ig] at hM;subst hM;have ew:P.Gx D k f (P.spot D a hd) up=some (up,P.spot D a hd):=by
   cases f with
   |zero=>show (if _ then _ else none)=_;rw[if_pos (by rw[F];exact Int.le_refl 0)]
   |succ f=>show (if _ then _ else _)=_;rw[if_pos (by rw[F];exact Int.le_refl 0)]
  exact⟨⟨up,_,U,H',L,Rr,T,L,Rr,ew,p,F,rfl,Q,by omega,rfl,rfl,hL,hR⟩⟩
 |l+1,0,_,_,_,_,_,_,_,_,hf,_,_,_,_,_,_,_,_,_,_=>by omega
 |l+1,f+1,O,H,a,hd,up,L,Rr,its,hf,K,hT,hb,hr,hup,hH,hO,hen,hL,hR=>by
  obtain⟨U,H',M,p,hM,Q⟩:=qge K hT hb hup hH hO hen;generalize hs:P.spot D a hd=s at p hup;obtain⟨G,F,e2,hg⟩:=p.Fp;subst e2;have a8:G≠[]:=λe=>p.ne (by rw[e];rfl)
  have J:rowOf G=its:=hM;obtain⟨j,hj,b1,b2,b3⟩:=qq5 hg (by rw[J];exact hr) a8 k;rw[<-F] at hj;obtain⟨x,hx⟩:∃x,G[j]?=some x:=⟨_,List.getElem?_eq_getElem b1⟩;obtain⟨k1,k2⟩:=qvd F hx;have d:G=G.take j++x::G.drop (j+1):=by
   obtain⟨_,ex⟩:=List.getElem?_eq_some_iff.1 hx;rw[<-ex,List.getElem_cons_drop,List.take_append_drop]
  have I:=hg x (List.mem_of_getElem? hx);obtain⟨ho,he,n,hn,c7,h0⟩:=q32 (Fq I.1).2.2;have b8:P.hide D U x.1=P.store D x.1:=q1z ho;have hE:P.Zh D x.1=0:=he;have b4:(P.Qh D x.1).lvl=(l:Int):=by
   have:=(Fq I.1).2.1;rw[b8] at this;exact this
  have Y:(Qg s.N.kids j).a=x.1:=by rw[k2];rfl
  have b6:P.Wn D s j=true:=by
   unfold Pl.Wn;rw[Y];refine decide_eq_true ⟨k1,hE,?_⟩;rw[b4,F];show (l:Int)=((l+1:Nat):Int)-1;omega
  have a7:P.Jj D s j=P.spot D x.1 s.shared:=by unfold Pl.Jj;rw[Y]
  have ew:P.Gx D k (f+1) s up=P.Gx D k f (P.spot D x.1 s.shared) ({ s with next:=j }::up):=by
   show (if s.N.lvl<=0 then _ else if P.Wn D s (s.N.Za k)=true then P.Gx D k f (P.Jj D s (s.N.Za k)) ({ s with next:=s.N.Za k }::up) else none)=_;rw[if_neg (by rw[F];show ¬((l+1:Nat):Int)<=0;omega),hj,if_pos b6,a7]
  rw[ew];have Z:∀y∈G.take j++G.drop (j+1),y∈G:=λy E=>by
   rcases List.mem_append.1 E with h|h
   ·exact List.mem_of_mem_take h
   ·exact List.mem_of_mem_drop h
  have b0:∀y∈G.take j++G.drop (j+1),y.1≠x.1:=qic (R:=P.hide D U) (l:=l) (by rw[<-d];exact hg) (by rw[<-d,J];exact hr);have m:its=rowOf (G.take j)++(x.2++rowOf (G.drop (j+1))):=by
   rw[<-J,<-q6a x,<-Rk,<-Rk];exact congrArg rowOf d
  have X:Zv P D U ((l+1:Nat):Int) { s with next:=j }:=⟨p.spot.shared,p.spot.mine⟩;have a1:Y1 P D U l (P.spot D x.1 s.shared) ({ s with next:=j }::up) (L++rowOf (G.take j)) (rowOf (G.drop (j+1))++Rr):=by
   refine⟨G.take j,G.drop (j+1),x,L,Rr,?_,?_,rfl,rfl,p.may,λhu=>?_,λy E=>hg y (Z y E),λ_=>I.1,X,p.way.next j,rfl,rfl,b0⟩
   ·show s.N=_;rw[F,<-d]
   ·show j=(G.take j).length;rw[List.length_take];omega
   ·have h1:=p.enough hu;have e6:Qr ((l+1:Nat):Int)=6:=if_neg (by omega);rw[e6,List.length_map] at h1;rw[List.length_take,List.length_drop];omega
  have b7:(Zx { s with next:=j } j (j+1)).named=(G.take j).map (·.1)++(G.drop (j+1)).map (·.1):=by
   have:=q2i (t:={ s with next:=j }) (l:=l) (GL:=G.take j) (GR:=G.drop (j+1)) (x:=x) (by show s.N=_;rw[F,<-d]) (by show j=_;rw[List.length_take];omega);exact this
  have b5:s.N.named=G.map (·.1):=by rw[F,q1j]
  have W:∀y∈x.2,y∈its:=λy E=>by rw[m];exact List.mem_append_right _ (List.mem_append_left _ E)
  have ih:=qke k l f (O:=U) (H:=H') (a:=x.1) (hd:=s.shared) (up:={ s with next:=j }::up) (L:=L++rowOf (G.take j)) (Rr:=rowOf (G.drop (j+1))++Rr) (its:=x.2) (by omega) p.keep I.1 (λy E=>hb y (W y E)) (by
    rw[m] at hr;exact (Nc (Nc hr).2).1) a1 (λb h1 h2=>by
    rw[p.held b h1 h2];show _=(own (P.spot D x.1 s.shared)++(own s++((if s.shared=true then [] else (Zx { s with next:=j } j (j+1)).named)++Zu up H0))).count _;have ho:own (P.spot D x.1 s.shared)=if s.shared=true then [] else [x.1]:=rfl
    rw[ho,b7,b5];have hc:(G.map (·.1)).count (b:Int)=((G.take j).map (·.1)).count (b:Int)+([x.1].count (b:Int)+((G.drop (j+1)).map (·.1)).count (b:Int)):=by
     rw[<-List.count_append,<-List.count_append];refine congrArg (List.count (b:Int)) ?_;conv=>lhs;rw[d]
     simp
    by_cases u:s.shared=true
    ·rw[if_pos u,if_pos u,if_pos u];simp only[List.nil_append]
    ·rw[if_neg u,if_neg u,if_neg u];simp only[List.count_append,hc];omega) (λy E=>by
    rcases p.opens y E with⟨h1,h2⟩|⟨t,h1,h2⟩
    ·exact⟨{ s with next:=j },List.mem_cons_self ..,h1,h2⟩
    ·exact⟨t,List.mem_cons_of_mem _ h1,h2⟩) (λ_=>I.2.1) (λy E=>by
    rcases List.mem_append.1 E with h|h
    ·exact hL y h
    ·exact b2 y h) (λy E=>by
    rcases List.mem_append.1 E with h|h
    ·exact b3 y h
    ·exact hR y h)
  obtain⟨c6,s',a6,a2,L',R',T,A,B,i1,i2,i3,i4,i5,i6,i7,i8,i9,b9⟩:=ih.is;refine⟨⟨c6,s',a6,a2,L',R',T,A,B,i1,i2,i3,?_,(Q.trans i5),by rw[List.length_cons] at i6;omega,i7,i8,i9,b9⟩⟩;rw[<-i4,m];simp only[List.append_assoc]
end
