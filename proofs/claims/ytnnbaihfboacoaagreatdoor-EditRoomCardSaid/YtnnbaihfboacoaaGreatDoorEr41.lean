/- The way up, node by node: what Put and Delete leave -/
import Derived.Test.YtnnbaihfboacoaaGreatDoorEr40
namespace Go.Proofs.YtnnbaihfboacoaaGreatDoor
open Go Go.RowKit Go.Proofs
section
variable {D:DM}{S0:Sp}{C0:Ct}{O H H0:List Int}{P:Pl}
theorem qq3 {R:Int->Nd × Int}{l:Nat}{N:Nd}{M:List (List Qc)}(d:Yr R l N M){y:Zw}(m:Qp R l y.1 y.2):y.1∉N.kids.map (·.a):=by
 cases l with
 |zero=>
  obtain⟨its,rfl,_⟩:=d;simp
 |succ l=>
  obtain⟨G,rfl,_,f⟩:=d;intro h;obtain⟨z,p,e⟩:=List.mem_map.1 h;obtain⟨g,b,rfl⟩:=List.mem_map.1 p;have h1:=(Fq (f g b).1).2.1;have h2:=(Fq m).2.1;have e:g.1=y.1:=e;rw[e] at h1;omega
theorem q4w {a:Int}{X:List Int}(h:X.count a=0):a∉X:=λhm=>by
 have:=List.count_pos_iff.2 hm;omega
theorem qej (left:Bool){l:Nat}{s t:Qu}{way:List Qu}{L' R':List Qc}{b:Nd}{M:List (List Qc)}{A C:List Zw}{x y:Zw}(K:Keep D S0 C0 O (own s++(b.named++Zu (t::way) H0)) P)(c7:H0.length<=10000)(hi:l+1+way.length<=7)
  (hG:t.N=⟨((l+1:Nat):Int),[],(A++((if left=true then [y,x] else [x,y])++C)).map Qn⟩) (hn:t.next=A.length+if left=true then 1 else 0) (d7:s.held=t.shared) (hm:A.length+2+C.length<=12) (c8:way≠[]->6<=A.length+2+C.length)
  (hA:∀z∈A,good1 (P.hide D O) l z) (hC:∀z∈C,good1 (P.hide D O) l z) (hy:good1 (P.hide D O) l y) (a7:y.1≠s.addr) (ht:Zv P D O ((l+1:Nat):Int) t) (hs:Zv P D O (l:Int) s) (c6:Y1 P D O (l+1) t way L' R')
  (hb:Yr (P.hide D O) l b M) (d3:Qr (l:Int)<=M.length+1) (d4:M.length<Qr (l:Int))
  (hO:∀z∈O,(s.shared=false/\z=s.addr)\/(t.shared=false/\z=t.addr)\/∃t'∈way,t'.shared=false/\z=t'.addr)
  (hr:Qd ((L'++rowOf A)++((if left=true then y.2++M.flatten else M.flatten++y.2)++(rowOf C++R')))) (hf:∀z∈(L'++rowOf A)++((if left=true then y.2++M.flatten else M.flatten++y.2)++(rowOf C++R')),Ze z) (b5:((L'++rowOf A)++((if left=true then y.2++M.flatten else M.flatten++y.2)++(rowOf C++R'))).length<=1000) :
  ∃u T f,P.near D t (if left=true then t.next-1 else t.next+1)=some u/\f=P.Jj D t (if left=true then t.next-1 else t.next+1)/\f.N.lvl=(l:Int)/\Since D O T H0 P u 0/\
   ((∃P3 ks O3 H3 Mc,u.Y7 ⟨Jd (l:Int) (if left=true then [f.N,b] else [b,f.N]),(if left=true then [f,s] else [s,f]),A.length,A.length+2⟩=some (P3,some ks)/\Ei D S0 C0 O3 H3 H0 P3 (l+1) t way L' R' A.length (A.length+2) ⟨(l:Int)+1,[],ks⟩ (A.map (·.2)) Mc (C.map (·.2))/\Since D T O3 H0 u P3 2/\
   L'++((A.map (·.2)++(Mc++C.map (·.2))).flatten++R')=(L'++rowOf A)++((if left=true then y.2++M.flatten else M.flatten++y.2)++(rowOf C++R')))\/(∃P3,u.Y7 ⟨Jd (l:Int) (if left=true then [f.N,b] else [b,f.N]),(if left=true then [f,s] else [s,f]),A.length,A.length+2⟩=some (P3,none)/\u.C.free<2)):=by
 have d5:Qr (l:Int)*2=Qq (l:Int)/\3<=Qr (l:Int)/\Qq (l:Int)<=12:=by unfold Qr Qq;split<;>omega
 have b6:∀z∈y.2,Ze z:=λz d=>hf z (by
  refine List.mem_append_right _ (List.mem_append_left _ ?_);split
  ·exact List.mem_append_left _ d
  ·exact List.mem_append_right _ d)
 have b4:∀z∈M.flatten,Ze z:=λz d=>hf z (by
  refine List.mem_append_right _ (List.mem_append_left _ ?_);split
  ·exact List.mem_append_right _ d
  ·exact List.mem_append_left _ d)
 have hq:(A++((if left=true then [y,x] else [x,y])++C))[if left=true then t.next-1 else t.next+1]?=some y:=by
  rw[hn]
  cases left
  ·simp
  ·simp
 have J:∀a,(Zx t t.next (t.next+1)).named.count a=(A.map (·.1)).count a + [y.1].count a+(C.map (·.1)).count a:=λa=>by
  cases left
  ·have e:=q2i (l:=l) (GL:=A) (GR:=y::C) (x:=x) (by rw[hG];simp) (by rw[hn];rfl);rw[e];simp only[List.map_cons,List.count_append,List.count_cons,List.count_nil];omega
  ·have e:=q2i (l:=l) (GL:=A++[y]) (GR:=C) (x:=x) (by rw[hG];simp) (by rw[hn];simp);rw[e];simp only[List.map_append,List.map_cons,List.map_nil,List.count_append,List.count_cons,List.count_nil]
 have b9:∀a,(Zu (t::way) H0).count a=(own t).count a+((if t.shared=true then [] else (Zx t t.next (t.next+1)).named).count a+(Zu way H0).count a):=λa=>by
  show (own t++((if t.shared=true then [] else (Zx t t.next (t.next+1)).named)++Zu way H0)).count a=_;rw[List.count_append,List.count_append]
 have Z:t.shared=false->∀a,(own s++(b.named++Zu (t::way) H0)).count a=(own s).count a+(b.named.count a+((own t).count a+(((A.map (·.1)).count a + [y.1].count a+(C.map (·.1)).count a)+(Zu way H0).count a))):=λh a=>by
  rw[List.count_append,List.count_append,b9,h,if_neg (by decide),J]
 have a2:([y.1]:List Int).count y.1=1:=by simp
 have a1:t.shared=false->y.1∈own s++(b.named++Zu (t::way) H0):=λh=>by
  refine List.count_pos_iff.1 ?_;rw[Z h,a2];omega
 have p:t.shared=false->(own s++(b.named++Zu (t::way) H0)).count y.1=1->y.1∉A.map (·.1)/\y.1∉C.map (·.1)/\y.1∉Zu way H0/\y.1∉own t:=λh h1=>by
  rw[Z h,a2] at h1;exact⟨q4w (by omega),q4w (by omega),q4w (by omega),q4w (by omega)⟩
 obtain⟨_,_,n,en,_,d2⟩:=q32 (Fq hy.1).2.2;have a8:t.shared=false->P.C.get y.1=1->(own s++(b.named++Zu (t::way) H0)).count y.1=1:=λh h1=>by
  have:=a1 h;rw[en] at this h1 ⊢;exact (K.once h1 this).1
 have n3:=qap (H0:=H0) c6;have n4:(own s).length<=1:=by unfold own;split<;>simp
 have n5:=(O7 hb λz d=>(b4 z d).2.2).2.2;have n6:(own t).length<=1:=by unfold own;split<;>simp
 have n7:(Zx t t.next (t.next+1)).named.length<=12:=by
  cases left
  ·have e:=q2i (l:=l) (GL:=A) (GR:=y::C) (x:=x) (by rw[hG];simp) (by rw[hn];rfl);rw[e];simp;omega
  ·have e:=q2i (l:=l) (GL:=A++[y]) (GR:=C) (x:=x) (by rw[hG];simp) (by rw[hn];simp);rw[e];simp;omega
 have b7:(own s++(b.named++Zu (t::way) H0)).length<=20000:=by
  have e:(Zu (t::way) H0).length<=1+(12+(Zu way H0).length):=by
   show (own t++((if t.shared=true then [] else (Zx t t.next (t.next+1)).named)++Zu way H0)).length<=_;rw[List.length_append,List.length_append];split
   ·rw[List.length_nil];omega
   ·omega
  rw[List.length_append,List.length_append];omega
 obtain⟨u,T,F,e1,NB,U,E,b2,b3,b8⟩:=qq1 K (H0:=H0) hG hq hy ht hs a7 c6 (λz d=>(b6 z d).2.2) b7 (λh1 h2=>by
  obtain⟨_,_,j3,j4⟩:=p h1 (a8 h1 h2);refine⟨a1 h1,j3,λe=>j4 ?_⟩;unfold own;rw[(ht.mine h1).1,if_neg (by decide),e];exact List.mem_singleton.2 rfl)
 generalize d6:P.Jj D t (if left=true then t.next-1 else t.next+1)=f at e1 NB U E b2 b3 b8;have I:∀z∈A++C,good1 (P.hide D O) l z->good1 (u.hide D T) l z:=λz d hg=>by
  rcases NB.once with⟨j1,_,j3,j4⟩|⟨_,j2⟩
  ·obtain⟨i1,i2,_,_⟩:=p j4 j3;refine NB.near.good (λe=>?_) hg;rcases List.mem_append.1 d with h|h
   ·exact i1 (e▸List.mem_map_of_mem h)
   ·exact i2 (e▸List.mem_map_of_mem h)
  ·exact q3m hg j2
 have a6:Yr (u.hide D T) l b M:=NB.near.Fp (qq3 hb hy.1) hb;have Y:Since D O T H0 P u 0:=⟨λl a its ha X=>by
  rcases NB.once with⟨j1,_,j3,j4⟩|⟨_,j2⟩
  ·obtain⟨_,_,i3,_⟩:=p j4 j3;exact NB.near.tree l a its (λe=>i3 (e▸restH_sub way ha)) X
  ·exact P9 j2 X,by have:=NB.free;omega,NB.n⟩
 have m:∀z∈(F++M).flatten,Ko z=none:=λz d=>by
  rw[List.flatten_append,E] at d;rcases List.mem_append.1 d with h|h
  ·exact (b6 z h).2.2
  ·exact (b4 z h).2.2
 have hJ:Yr (u.hide D T) l (Jd (l:Int) (if left=true then [f.N,b] else [b,f.N])) (if left=true then F++M else M++F):=by
  cases left
  ·have:=q6u (R:=u.hide D T) (l:=l) [(b,M),(f.N,F)] (λz d=>by
    rcases List.mem_cons.1 d with rfl|d
    ·exact a6
    ·rw[List.mem_singleton.1 d];exact U)
   simpa using this
  ·have:=q6u (R:=u.hide D T) (l:=l) [(f.N,F),(b,M)] (λz d=>by
    rcases List.mem_cons.1 d with rfl|d
    ·exact U
    ·rw[List.mem_singleton.1 d];exact a6)
   simpa using this
 have c9:∀a,(Jd (l:Int) (if left=true then [f.N,b] else [b,f.N])).named.count a=f.N.named.count a+b.named.count a:=λa=>by
  have e0:∀z∈(if left=true then F++M else M++F).flatten,Ko z=none:=λz d=>m z (by
   rw[List.flatten_append];split at d
   ·rw[List.flatten_append] at d;exact d
   ·rw[List.flatten_append] at d;rcases List.mem_append.1 d with h|h
    ·exact List.mem_append_right _ h
    ·exact List.mem_append_left _ h)
  have e2:∀z∈F.flatten,Ko z=none:=λz d=>m z (by rw[List.flatten_append];exact List.mem_append_left _ d)
  have e3:∀z∈M.flatten,Ko z=none:=λz d=>m z (by rw[List.flatten_append];exact List.mem_append_right _ d)
  rw[(O7 hJ e0).1,(O7 U e2).1,(O7 a6 e3).1];unfold Jd
  cases left
  ·simp only[Bool.false_eq_true,if_false,List.flatMap_cons,List.flatMap_nil,List.append_nil,List.map_append,List.count_append];omega
  ·simp only[if_true,List.flatMap_cons,List.flatMap_nil,List.append_nil,List.map_append,List.count_append]
 have W:(if left=true then F++M else M++F).flatten=if left=true then y.2++M.flatten else M.flatten++y.2:=by
  cases left
  ·simp[E]
  ·simp[E]
 have b1:(if left=true then F++M else M++F).length=F.length+M.length:=by
  cases left
  ·simp[Nat.add_comm]
  ·simp
 have G:(if left=true then [y,x] else [x,y]).length=2:=by cases left<;>rfl
 have b0:(own f).count=λa=>if t.shared=true then 0 else [y.1].count a:=by
  funext a
  unfold own;rw[NB.held,NB.addr];split<;>simp
 have Q:=qkd (H0:=H0) NB.keep (l:=l) (t:=t) (way:=way) (L':=L') (R':=R') (olds:=if left=true then [f,s] else [s,f]) (A:=A) (B:=if left=true then [y,x] else [x,y]) (C:=C) hJ (by rw[b1];omega) (by rw[b1];omega)
  (λz d=>by
   have:z=f\/z=s:=by
    split at d
    ·rcases List.mem_cons.1 d with h|h
     ·exact .inl h
     ·exact .inr (List.mem_singleton.1 h)
    ·rcases List.mem_cons.1 d with h|h
     ·exact .inr h
     ·exact .inl (List.mem_singleton.1 h)
   rcases this with rfl|rfl
   ·exact NB.nbk
   ·exact NB.sk)
  (by
   split
   ·exact List.pairwise_cons.2 ⟨λz d=>by rw[List.mem_singleton.1 d];exact .inr (by rw[NB.addr];exact λe=>a7 e.symm),List.pairwise_singleton _ _⟩
   ·exact List.pairwise_cons.2 ⟨λz d=>by rw[List.mem_singleton.1 d];exact .inr (by rw[NB.addr];exact a7),List.pairwise_singleton _ _⟩)
  hG (λz d=>I z (List.mem_append_left _ d) (hA z d)) (λz d=>I z (List.mem_append_right _ d) (hC z d)) NB.tk NB.up (λa _ _=>by
   have ho:((if left=true then [f,s] else [s,f]).flatMap own).count (a:Int)=(own f).count (a:Int)+(own s).count (a:Int):=by
    cases left
    ·simp[List.count_append,Nat.add_comm]
    ·simp[List.count_append]
   have d0:(own f).count (a:Int)=if t.shared=true then 0 else [y.1].count (a:Int):=congrFun b0 (a:Int)
   simp only[List.count_append,ho,d0,c9,b9];by_cases X:t.shared=true
   ·rw[if_pos X,if_pos X,if_pos X];omega
   ·rw[if_neg X,if_neg X,if_neg X,J,List.count_append];omega)
  (λz d=>by
   have d1:z=y.1/\f.shared=false\/z∈O:=by
    rcases NB.once with⟨j1,j2,_⟩|⟨j1,_⟩
    ·rw[j1] at d;rcases List.mem_cons.1 d with h|h
     ·exact .inl ⟨h,j2⟩
     ·exact .inr h
    ·rw[j1] at d;exact .inr d
   rcases d1 with⟨h1,h2⟩|h
   ·exact .inl ⟨f,by split<;>simp,h2,by rw[NB.addr];exact h1⟩
   ·rcases hO z h with⟨h1,h2⟩|h
    ·exact .inl ⟨s,by split<;>simp,h1,h2⟩
    ·exact .inr h)
  (by rw[G];omega) (by rw[G];exact hm) (by rw[G];omega) (by rw[G];exact c8) (by rw[W];exact hr) (by rw[W];exact hf) (by rw[W];exact b5) c7 hi
 rw[G,W] at Q;refine⟨u,T,f,e1,rfl,b8,Y,?_⟩;exact Q
where
 restH_sub {H0:List Int}:∀(way:List Qu) {a:Int},a∈H0->a∈Zu way H0
  |[],a,h=>h
  |t::way,a,h=>List.mem_append_right _ (List.mem_append_right _ (restH_sub way h))
end
section
variable {D:DM}{S0:Sp}{C0:Ct}{H0:List Int}
def Yf (D:DM)(S0:Sp)(C0:Ct)(O H0:List Int)(P:Pl)(its:List Qc)(k:Nat)(E:Option (Pl × Option Int)):Prop:=
 (∃b r,E=some (b,some r)/\Qaj D S0 C0 O H0 P b r its k)\/(∃b,E=some (b,none)/\P.C.free<k)
theorem Yf.since {O O':List Int}{P P':Pl}{its:List Qc}{k k':Nat}{E:Option (Pl × Option Int)}(h:Since D O O' H0 P P' k)(e:Yf D S0 C0 O' H0 P' its k' E):Yf D S0 C0 O H0 P its (k+k') E:=by
 rcases e with⟨b,r,d,f⟩|⟨b,d,f⟩
 ·exact .inl ⟨b,r,d,h.fin f⟩
 ·exact .inr ⟨b,d,by have:=h.free;omega⟩
theorem Yf.more {O:List Int}{P:Pl}{its:List Qc}{k k':Nat}{E:Option (Pl × Option Int)}(e:Yf D S0 C0 O H0 P its k E)(hk:k<=k'):Yf D S0 C0 O H0 P its k' E:=by
 rcases e with⟨d,r,f,b⟩|⟨d,f,b⟩
 ·exact .inl ⟨d,r,f,⟨b.keep,b.tree,b.old,by have:=b.free;omega,b.n⟩⟩
 ·exact .inr ⟨d,f,by omega⟩
theorem q7y {l:Nat}{t:Qu}{way:List Qu}{L' R' its:List Qc}{O:List Int}{P:Pl}{x:Px}{a b:Nat}{B E:List (List Qc)}{n:Int}
  (m:(∃d p u A f,P.Y7 x=some (d,some p)/\Ei D S0 C0 u A H0 d (l+1) t way L' R' a b ⟨n,[],p⟩ B f E/\Since D O u H0 P d 2/\L'++((B++(f++E)).flatten++R')=its)\/(∃d,P.Y7 x=some (d,none)/\P.C.free<2))
  (M:∀{O H:List Int} {P:Pl} {i j:Nat} {e:Nd} {F f G:List (List Qc)},Ei D S0 C0 O H H0 P (l+1) t way L' R' i j e F f G->Yf D S0 C0 O H0 P (L'++((F++(f++G)).flatten++R')) (2*way.length+3) (Wj D way P t i j e)) :
  Yf D S0 C0 O H0 P its (2*way.length+5) (match P.Y7 x with
    |some (d,some p)=>Wj D way d t a b ⟨n,[],p⟩
    |some (d,none)=>some (d,none)
    |none=>none):=by
 rcases m with⟨d,p,u,A,f,y,I,J,K⟩|⟨d,y,I⟩
 ·rw[y];have:=Yf.since J (M I);rw[K] at this;exact this.more (by omega)
 ·rw[y];exact .inr ⟨d,rfl,by omega⟩
theorem Rk (A B:List Zw):rowOf (A++B)=rowOf A++rowOf B:=by unfold rowOf;simp
theorem q6a (y:Zw):rowOf [y]=y.2:=by unfold rowOf;simp
theorem qaq:∀(way:List Qu) {l:Nat} {s:Qu} {O H:List Int} {P:Pl} {L Rr:List Qc} {i j:Nat} {d:Nd} {X Z Y:List (List Qc)},Ei D S0 C0 O H H0 P l s way L Rr i j d X Z Y->
  Yf D S0 C0 O H0 P (L++((X++(Z++Y)).flatten++Rr)) (2*way.length+3) (Wj D way P s i j d)
 |[],l,s,O,H,P,L,Rr,i,j,d,X,Z,Y,h=>by
  obtain⟨P1,e1,K1,J,hs,b2,u,_⟩:=qcq h;obtain⟨rfl,rfl⟩:=h.up;have I:=h.rise;have G:=h.fine;have f:=h.few;simp only[List.nil_append,List.append_nil] at I G f;have ht:=qts K1 J hs (H0:=H0) (λ_ _ _=>rfl) I G (by have:=h.high;omega) f h.most h.one (λy hy=>by
   rcases h.opens y hy with h|⟨t,ht,_⟩
   ·exact h
   ·cases ht)
  have ee:Wj D [] P s i j d=P1.top s (Ye s i j d):=by
   show (match P.Qx s i j with|some P1=>P1.top s (Ye s i j d)|none=>none)=_;rw[e1]
  rw[ee,List.nil_append,List.append_nil];exact (Yf.since (k:=0) (k':=3) u ht).more (by simp)
 |t::way,l,s,O,H,P,L,Rr,i,j,d,X,Z,Y,h=>by
  obtain⟨P1,e1,K1,J,hs,b2,u,_⟩:=qcq h;have b5:Qr (l:Int)*2=Qq (l:Int)/\3<=Qr (l:Int):=by unfold Qr Qq;split<;>omega
  obtain⟨T,U,x,L',R',g1,W,g3,g4,g5,g6,g7,g8,g9,a1,a2,a6,b1⟩:=b2;have K:=q4s J;have Q:=q5l J;have hk:=Py g5 (by rw[g1];show ¬((l+1:Nat):Int)=0;omega);have m:=hk.2.2.2.2.1;have F:=hk.2.2.2.1;rw[g1] at m F;have m:((T++x::U).map Qn).length<=12:=m;have F:2<=((T++x::U).map Qn).length:=F;simp only[List.length_map,List.length_append,List.length_cons] at m F;have hi:=h.high;rw[List.length_cons] at hi;have R:=h.least (by simp);have a8:=h.most;have hO:∀z∈O,(s.shared=false/\z=s.addr)\/(t.shared=false/\z=t.addr)\/∃t'∈way,t'.shared=false/\z=t'.addr:=λz E=>by
   rcases h.opens z E with hx|⟨t',b0,hx⟩
   ·exact .inl hx
   ·rcases List.mem_cons.1 b0 with e|b0
    ·rw[e] at hx;exact .inr (.inl hx)
    ·exact .inr (.inr ⟨t',b0,hx⟩)
  have ih:=λ{O H:List Int} {P:Pl} {i j:Nat} {d:Nd} {X Z Y:List (List Qc)} (e:Ei D S0 C0 O H H0 P (l+1) t way L' R' i j d X Z Y)=>qaq way e
  have I:=h.rise;have G:=h.fine;have f:=h.few;have a7:=h.H0s;have ee:Wj D (t::way) P s i j d=match P1.have_ D s (Ye s i j d) t with
    |some (x,P2)=>match P2.Y7 x with
     |some (P3,some ks)=>Wj D way P3 t x.i x.j ⟨x.N.lvl+1,[],ks⟩
     |some (P3,none)=>some (P3,none)
     |none=>none
    |none=>none:=by
   show (match P.Qx s i j with|some P1=>_|none=>none)=_;rw[e1];rfl
  generalize hM:X++(Z++Y)=M at J Q R a8 I G f;generalize b4:Ye s i j d=b at J K Q K1 ee;rw[ee];unfold Pl.have_;by_cases c1:Qr b.lvl<=b.size
  ·-- enough
   rw[if_pos c1];dsimp only;have p:L++(M.flatten++Rr)=(L'++rowOf T)++(M.flatten++(rowOf U++R')):=by rw[a2,a6]
   rw[p] at I G f ⊢;have b3:=qkd (H0:=H0) K1 (l:=l) (t:=t) (way:=way) (L':=L') (R':=R') (N:=b) (M:=M) (olds:=[s]) (A:=T) (B:=[x]) (C:=U) J (by rw[K,Q] at c1;exact c1) (by omega) (λz E=>by rw[List.mem_singleton.1 E];exact hs) (List.pairwise_singleton _ _)
    (by rw[g1];rfl) (λz E=>g7 z (List.mem_append_left _ E)) (λz E=>g7 z (List.mem_append_right _ E)) g9 a1 (λa _ _=>by
     have e:(Zu (t::way) H0).count (a:Int)=(own t).count (a:Int)+((if t.shared=true then [] else (Zx t t.next (t.next+1)).named).count (a:Int)+(Zu way H0).count (a:Int)):=by
      show (own t++((if t.shared=true then [] else (Zx t t.next (t.next+1)).named)++Zu way H0)).count _=_;rw[List.count_append,List.count_append]
     rw[q2i g1 W] at e;rw[List.flatMap_cons,List.flatMap_nil,List.append_nil];simp only[List.count_append,e])
    (λz E=>by
     rcases hO z E with h|h
     ·exact .inl ⟨s,List.mem_singleton.2 rfl,h⟩
     ·exact .inr h)
    (by simp) (by simp;omega) (by simp;omega) (λhw=>by have:=g6 hw;simp;omega) I G f a7 (by omega)
   have:=q7y (x:=⟨b,[s],t.next,t.next+1⟩) (n:=b.lvl+1) (by rw[W];exact b3) ih;rw[<-W] at this;exact (Yf.since (k:=0) u this).more (by rw[List.length_cons];omega)
  ·rw[if_neg c1];rw[K,Q] at c1;by_cases c2:0<t.next
   ·-- the neighbour ahead
    rw[if_pos c2];obtain⟨A,y,rfl⟩:∃A y,T=A++[y]:=⟨T.dropLast,T.getLast (λe=>by rw[W,e] at c2;cases c2),(List.dropLast_concat_getLast _).symm⟩;have p:L++(M.flatten++Rr)=(L'++rowOf A)++((if true=true then y.2++M.flatten else M.flatten++y.2)++(rowOf U++R')):=by
     rw[a2,a6,Rk,q6a,if_pos rfl];simp only[List.append_assoc]
    rw[p] at I G f ⊢;simp only[List.length_append,List.length_cons,List.length_nil] at W g6 m F;obtain⟨P2,O2,nb,j1,j2,j3,j4,j5⟩:=qej (H0:=H0) true (x:=x) (y:=y) (A:=A) (C:=U) K1 a7 (by omega) (by rw[g1];simp) (by rw[W];rfl) g4 (by omega) (λhw=>by have:=g6 hw;omega) (λz E=>g7 z (by simp[E])) (λz E=>g7 z (by simp[E])) (g7 y (by simp)) (b1 y (by simp)) g9 hs a1 J (by omega) (by omega) hO I G f;rw[if_pos rfl] at j1 j2;rw[j1,<-j2];simp only[if_true] at j5;simp only[Option.map_some];have en:t.next-1=A.length/\t.next+1=A.length+2:=by omega
    rw[en.1,en.2,j3];have:=q7y (n:=(l:Int)+1) j5 ih;exact (Yf.since (k:=0+0) (u.trans j4) this).more (by rw[List.length_cons];omega)
   ·-- the neighbour behind
    rw[if_neg c2];obtain rfl:T=[]:=List.eq_nil_of_length_eq_zero (by omega);obtain⟨y,C,rfl⟩:∃y C,U=y::C:=by
     match U,F with
     |y::C,_=>exact⟨y,C,rfl⟩
     |[],h=>simp at h
    have p:L++(M.flatten++Rr)=(L'++rowOf [])++((if false=true then y.2++M.flatten else M.flatten++y.2)++(rowOf C++R')):=by
     rw[a2,a6,if_neg (by decide)];have:rowOf (y::C)=y.2++rowOf C:=by rw[show y::C=[y]++C from rfl,Rk,q6a]
     rw[this];simp only[List.append_assoc]
    rw[p] at I G f ⊢;simp only[List.length_cons,List.length_nil] at W g6 m F;obtain⟨P2,O2,nb,j1,j2,j3,j4,j5⟩:=qej (H0:=H0) false (x:=x) (y:=y) (A:=[]) (C:=C) K1 a7 (by omega) (by rw[g1];simp) (by rw[W];rfl) g4 (by simp;omega) (λhw=>by have:=g6 hw;simp;omega) (λz E=>by cases E) (λz E=>g7 z (by simp[E])) (g7 y (by simp)) (b1 y (by simp)) g9 hs a1 J (by omega) (by omega) hO I G f;rw[if_neg (by decide)] at j1 j2;rw[j1,<-j2];simp only[Bool.false_eq_true,if_false] at j5;simp only[Option.map_some];have en:t.next=([]:List Zw).length/\t.next+2=([]:List Zw).length+2:=by simp;omega
    rw[en.2,K];have e3:t.next=([]:List Zw).length:=en.1;rw[e3];have:=q7y (n:=(l:Int)+1) j5 ih;exact (Yf.since (k:=0+0) (u.trans j4) this).more (by rw[List.length_cons];omega)
end
