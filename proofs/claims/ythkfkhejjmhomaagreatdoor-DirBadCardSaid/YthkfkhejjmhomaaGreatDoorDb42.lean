/- The nodes that some roots lead «to», found one by one -/
import Derived.Test.YthkfkhejjmhomaaGreatDoorDb36
import Derived.Test.YthkfkhejjmhomaaGreatDoorDb40
import Derived.Test.YthkfkhejjmhomaaGreatDoorDb41
namespace Go.Proofs.YthkfkhejjmhomaaGreatDoor
open Go Go.RowKit Go.Proofs
set_option maxHeartbeats 16000000
set_option maxRecDepth 100000
structure Qcm (R:Int->Nd × Int)(roots:List Int)(Ns:List (Int × Nd))(seen:Nat->Bool)(todo:List Int):Prop where
 got:∀x∈Ns,R x.1=(x.2,0)/\∃c:Nat,x.1=(c:Int)/\seen c=true
 all:∀c:Nat,seen c=true->(R (c:Int)).2=0->((c:Int),(R (c:Int)).1)∈Ns
 one:Ns.Pairwise λx y=>x.1≠y.1
 root:∀a:Nat,0<a->a<2048->(a:Int)∈roots->seen a=true\/(a:Int)∈todo
 kid:∀x∈Ns,∀y∈x.2.kids,∀a:Nat,y.a=(a:Int)->0<a->a<2048->seen a=true\/(a:Int)∈todo
section
variable {R:Int->Nd × Int}{roots:List Int}{Ns:List (Int × Nd)}{seen:Nat->Bool}{r:List Int}{x:Int}
end
theorem quy (n:Nat)(a:Int):(Ct.zero n).get a=0:=by
 unfold Ct.get Ct.zero nm;split
 ·show (List.replicate n (0:Int)).getD a.toNat 0=0;rw[List.getD_eq_getElem?_getD,List.getElem?_replicate];split<;>rfl
 ·rfl
theorem q2x (P:Pl)(D:DM):P.hide D []=P.tell D:=by
 funext a
 exact if_neg (by simp)
theorem qmt (P:Pl)(D:DM)(a:Int):(P.tell D a).1.named=(P.Qd D a).named:=by
 by_cases e:P.Qi D a=0
 ·rw[Ii e];rfl
 ·rw[qa2 e];by_cases h0:P.C.get a=0
  ·rw[q39 h0]
  ·rw[qfh h0 e];rfl
theorem q60 {P:Pl}{D:DM}:∀{l:Nat} {a:Int} {its:List Qb},Qm (P.tell D) l a its↔Qm (P.store D) l a its
 |0,a,its=>by
  constructor
  ·intro h;have e:P.Qi D a=0:=qdm (by rw[h.1]) (by rw[h.1];exact Int.le_refl 0);exact⟨by rw[<-Ii e];exact h.1,h.2⟩
  ·intro h;have e:P.Qi D a=0:=congrArg Prod.snd h.1;exact⟨by rw[Ii e];exact h.1,h.2⟩
 |l+1,a,its=>by
  constructor
  ·rintro⟨kids,parts,h1,h2,y,A,f⟩;have e:P.Qi D a=0:=qdm (by rw[h1]) (by rw[h1];exact Int.natCast_nonneg (l+1));exact⟨kids,parts,by rw[<-Ii e];exact h1,h2,y,A,λj u=>⟨q60.1 (f j u).1,(f j u).2⟩⟩
  ·rintro⟨kids,parts,h1,h2,y,A,f⟩;have e:P.Qi D a=0:=congrArg Prod.snd h1;exact⟨kids,parts,by rw[Ii e];exact h1,h2,y,A,λj u=>⟨q60.2 (f j u).1,(f j u).2⟩⟩
theorem q4k {P:Pl}{D:DM}{l:Nat}{a:Int}{its:List Qb}:Qm (P.hide D []) l a its↔Qm (P.store D) l a its:=by rw[q2x];exact q60
theorem qe7 {P:Pl}{D:DM}{root:Int}{its:List Qb}:Ji (P.hide D []) root its↔Ji (P.store D) root its:=by
 unfold Ji;constructor
 ·rintro (h|⟨l,h1,h2,e⟩)
  ·exact .inl h
  ·exact .inr ⟨l,h1,q4k.1 h2,e⟩
 ·rintro (h|⟨l,h1,h2,e⟩)
  ·exact .inl h
  ·exact .inr ⟨l,h1,q4k.2 h2,e⟩
theorem qmu {n:Nat}(h1:32<=n)(h2:n<=2048):Keep ((DM.mk0 n).Qz (Xq n)) (fmtS n) (Ct.zero n) [] [] (Pl.fresh n):=by
 obtain⟨_,h,_⟩:=qj9 (D:=DM.mk0 n) h1 h2 rfl ⟨rfl,rfl⟩;have e:∀a:Int,(Pl.fresh n).C.get a=0:=quy n;refine⟨⟨qtb h1 h2,h,λa b y=>(by cases y)⟩,λa u=>absurd (e a) (q38 u),⟨λa _ _=>?_⟩,λx A=>(by cases A),λa _ h0=>absurd (e a) h0⟩;have f:∀b,(Pl.fresh n).cnt b=0:=λb=>by unfold Pl.cnt;rw[e];rfl
 rw[f];have:refs (λb=>((Pl.fresh n).hide ((DM.mk0 n).Qz (Xq n)) [] (b:Int)).1.named) (Pl.fresh n).C.n (Pl.fresh n).cnt a=0:=qcu λb _=>by rw[f];rfl
 rw[this];rfl
section
variable {D:DM}{S0:Sp}{C0:Ct}{H:List Int}{P:Pl}
theorem Keep.Qau (K:Keep D S0 C0 [] H P):P.Ad D H:=Jz.same K.Ad (λ_ _=>rfl) λb _ _=>by rw[q2x,qmt];rfl
theorem Keep.Vj (K:Keep D S0 C0 [] H P):P.Vj D:=by
 have L:=λ{a:Nat} (f:P.Qi D (a:Int)=0)=>by
  have e:=Ii f;have hm:=q8w K.Zx f;have:=K.Qav (x:=(a:Int)) (by rw[q2x,e];exact f) (by rw[q2x,e];exact (q7d hm).1);rw[q2x] at this;exact this
 refine⟨λa _ _ f=>q8w K.Zx f,λa _ _ f x B c E=>?_,λa _ _ f x B=>?_⟩
 ·have h1:=(L f).data x (by rw[Ii f];exact B) c E;exact (qdn K.Zx h1).2
 ·obtain⟨I,F,J,_⟩:=(L f).kids x (by rw[Ii f];exact B);have A:=q8w K.Zx f;have G:(P.tell D (a:Int)).1.lvl=(P.Qd D (a:Int)).lvl:=by rw[Ii f];rfl
  have M:1<=(P.Qd D (a:Int)).lvl:=by
   refine Classical.byContradiction λE=>?_
   have h0:(P.Qd D (a:Int)).lvl=0:=by have:=(q7d A).1;omega
   have e:(P.Qd D (a:Int)).kids=[]:=congrArg Nd.kids (q19 A h0).1;rw[e] at B
   cases B
  rw[G] at F;have u:=qdm I (by omega);obtain⟨c,e,E⟩:=Gq (qa3 I);have y:P.C.get (c:Int)≠0:=by rw[<-e];exact qa3 I
  obtain⟨c0,_⟩:=K.first y
  rw[Ii u] at F J;rw[e] at F J u;exact⟨c,e,c0,E,y,u,F,J⟩
end
theorem qgb {α:Type}:∀{l l':List α},l.Nodup->(∀x∈l,x∈l')->l.length<=l'.length
 |[],_,_,_=>Nat.zero_le _
 |x::t,l',hn,hs=>by
  obtain⟨h1,h2⟩:=List.nodup_cons.1 hn;obtain⟨s,u,rfl⟩:=List.append_of_mem (hs x (List.mem_cons_self ..));have:=qgb (l':=s++u) h2 λy e=>by
   have f:=hs y (List.mem_cons_of_mem _ e);rcases List.mem_append.1 f with h|h
   ·exact List.mem_append_left _ h
   ·rcases List.mem_cons.1 h with h|h
    ·exact absurd (h▸e) h1
    ·exact List.mem_append_right _ h
  rw[List.length_append,List.length_cons] at *;simp only[List.length_cons];omega
theorem qkk {α:Type}{p a b c d:α->Bool}:∀(l:List α),(∀x∈l,p x=true->a x=true\/b x=true\/c x=true\/d x=true)->l.countP p<=l.countP a+(l.countP b+(l.countP c+l.countP d))
 |[],_=>by simp
 |x::t,h=>by
  have A:=qkk t λy u=>h y (List.mem_cons_of_mem _ u)
  have f:=h x (List.mem_cons_self ..);simp only[List.countP_cons];by_cases e:p x=true
  ·rcases f e with h|h|h|h<;>rw[if_pos h,if_pos e]<;>split<;>omega
  ·rw[if_neg e];omega
def Xa (R:Int->Nd × Int):Nat->Int->List Int
 |0,a=>[a]
 |l+1,a=>a::(R a).1.kids.flatMap λx=>Xa R l x.a
theorem qcj (R:Int->Nd × Int):∀(l:Nat) (a:Int),a∈Xa R l a
 |0,_a=>List.mem_cons_self ..
 |_l+1,_a=>List.mem_cons_self ..
theorem q8k {R:Int->Nd × Int}:∀{l:Nat} {r b:Int} {its:List Qb},Qm R l r its->b∈Xa R l r->∀x∈(R b).1.kids,x.a∈Xa R l r
 |0,r,b,its,h,f,x,hx=>by
  obtain rfl:b=r:=List.mem_singleton.1 f;rw[h.1] at hx
  cases hx
 |l+1,r,b,its,h,f,x,hx=>by
  rcases List.mem_cons.1 f with rfl|f
  ·exact List.mem_cons_of_mem _ (List.mem_flatMap.2 ⟨x,hx,qcj R l x.a⟩)
  ·obtain⟨k,y,f⟩:=List.mem_flatMap.1 f;obtain⟨kids,parts,e,G,I,J,F⟩:=h;rw[e] at y;obtain⟨j,u,E⟩:=List.getElem_of_mem y;have B:Qe kids j=k:=by
    have:=q12 u;rw[List.getElem?_eq_getElem u,E] at this;exact (Option.some.inj this).symm
   have A:=(F j u).1;rw[B] at A;have:=q8k A f x hx;refine List.mem_cons_of_mem _ (List.mem_flatMap.2 ⟨k,?_,this⟩);rw[e];exact y
theorem qat {R:Int->Nd × Int}{l:Nat}(h:∀y:Zz,good1 R l y->(Xa R l y.1).length+2<=y.2.length):∀(G:List Zz),(∀x∈G,good1 R l x)->(G.flatMap λx=>Xa R l x.1).length+2*G.length<=(G.map (·.2)).flatten.length
 |[],_=>by simp
 |y::G,hg=>by
  have h1:=h y (hg y (List.mem_cons_self ..));have h2:=qat h G λx e=>hg x (List.mem_cons_of_mem _ e)
  simp only[List.flatMap_cons,List.map_cons,List.flatten_cons,List.length_append,List.length_cons];omega
section
variable {D:DM}{S0:Sp}{C0:Ct}{H:List Int}{P:Pl}
theorem qck (R:Int->Nd × Int)(l:Nat)(G:List Zz):((G.map Qn).flatMap λx=>Xa R l x.a)=G.flatMap λx=>Xa R l x.1:=by
 induction G with
 |nil=>rfl
 |cons y G ih=>rw[List.map_cons,List.flatMap_cons,List.flatMap_cons,ih];rfl
theorem Keep.few (K:Keep D S0 C0 [] H P):∀(l:Nat) (y:Zz),good1 (P.hide D []) l y->(Xa (P.hide D []) l y.1).length+2<=y.2.length
 |0,y,h=>by
  have:=K.long 0 y h;show 1+2<=_;omega
 |l+1,y,h=>by
  obtain⟨M,f,B,_,_⟩:=K.Fa h.1;have A:=(q3c f).1 h.2.1;obtain⟨G,e,rfl,E⟩:=f;have u:Qp ((l+1:Nat):Int)=6:=if_neg (by omega);rw[u,List.length_map] at A;have h2:=qat (λy F=>K.few l y F) G E;show (y.1::_).length+2<=_;rw[List.length_cons,e,qck,<-B];omega
theorem Keep.Tq (K:Keep D S0 C0 [] H P){l:Nat}{a:Int}{its:List Qb}(h:Qm (P.hide D []) l a its):(Xa (P.hide D []) l a).length<=its.length:=by
 obtain⟨M,u,B,A,F⟩:=K.Fa h
 cases l with
 |zero=>
  have:=h.2;show 1<=_;exact List.length_pos_iff.2 this
 |succ l=>
  obtain⟨G,e,rfl,E⟩:=u;have h2:=qat (λy I=>K.few l y I) G E;have f:=(Pe A.may (by rw[e];show ¬((l+1:Nat):Int)=0;omega)).2.2.2.1;rw[e] at f;have f:2<=(G.map Qn).length:=f;rw[List.length_map] at f;show (a::_).length<=_;rw[List.length_cons,e,qck,<-B];omega
def Ct.used (C:Ct):Nat:=(List.range C.n).countP λa=>decide (nm C.now a≠0)
def Ct.kept (C:Ct):Nat:=(List.range C.n).countP λa=>decide (nm C.done a≠0)
theorem qr4 (C:Ct):C.n<=C.free+(C.first+(C.used+C.kept)):=by
 have h:=qkk (p:=λ_=>true) (a:=λj=>C.may j) (b:=λj=>decide (j<C.first)) (c:=λa=>decide (nm C.now a≠0)) (d:=λa=>decide (nm C.done a≠0)) (List.range C.n) λx B _=>by
  by_cases h1:x<C.first
  ·exact .inr (.inl (decide_eq_true h1))
  ·by_cases h2:nm C.now x=0
   ·by_cases e:nm C.done x=0
    ·left
     unfold Ct.may Ct.G6;simp[h2,e];omega
    ·exact .inr (.inr (.inr (decide_eq_true e)))
   ·exact .inr (.inr (.inl (decide_eq_true h2)))
 have u:(List.range C.n).countP (λ_=>true)=C.n:=by
  rw[List.countP_eq_length.2 λ_ _=>rfl,List.length_range]
 have A:(List.range C.n).countP (λj=>decide (j<C.first))<=C.first:=by
  generalize C.n=n;generalize C.first=f
  induction n with
  |zero=>simp
  |succ n ih=>
   rw[List.range_succ,List.countP_append];by_cases hn:n<f
   ·have:(List.range n).countP (λj=>decide (j<f))<=n:=by
     have:=List.countP_le_length (p:=λj=>decide (j<f)) (l:=List.range n);rw[List.length_range] at this;exact this
    simp[hn];omega
   ·simp[hn];omega
 have y:(List.range C.n).countP (λj=>C.may j)=C.free:=by unfold Ct.free Ct.Xh;rfl
 rw[u,y] at h;unfold Ct.used Ct.kept;omega
def Qap (R:Int->Nd × Int)(L:List (Nat × Int × List Qb)):Prop:=∀x∈L,Qm R x.1 x.2.1 x.2.2
theorem qau {R:Int->Nd × Int}:∀{l:Nat} {r b:Int} {its:List Qb},Qm R l r its->b∈Xa R l r->∀x∈(R b).1.items,x∈its
 |0,r,b,its,h,f,x,hx=>by
  obtain rfl:b=r:=List.mem_singleton.1 f;rw[h.1] at hx;exact hx
 |l+1,r,b,its,h,f,x,hx=>by
  obtain⟨kids,parts,e,I,J,F,G⟩:=h;rcases List.mem_cons.1 f with rfl|f
  ·rw[e] at hx;cases hx
  ·obtain⟨k,A,f⟩:=List.mem_flatMap.1 f;rw[e] at A;obtain⟨j,u,E⟩:=List.getElem_of_mem A;have B:Qe kids j=k:=by
    have:=q12 u;rw[List.getElem?_eq_getElem u,E] at this;exact (Option.some.inj this).symm
   have y:=(G j u).1;rw[B] at y;have u:j<kids.length:=u;have h1:=qau y f x hx;rw[F];rw[List.getD_eq_getElem?_getD,List.getElem?_eq_getElem (by omega)] at h1;exact List.mem_flatten.2 ⟨_,List.getElem_mem (by omega),h1⟩
theorem Keep.used (K:Keep D S0 C0 [] H P){L:List (Nat × Int × List Qb)}{X:List Int}(hL:Qap (P.hide D []) L)(hH:∀a∈H,(∃x∈L,x.2.1=a)\/a∈X)(hX:∀a∈X,P.Qi D a≠0):P.C.used<=(L.map λx=>x.2.2.length).sum+((L.map λx=>(x.2.2.filterMap Uc).length).sum+X.length):=by
 have E:∀a:Nat,(a:Int)∈H->P.Qi D (a:Int)=0->∀x∈L,x.2.1=(a:Int)->(a:Int)∈L.flatMap λx=>Xa (P.hide D []) x.1 x.2.1:=λa _ _ x u e=>List.mem_flatMap.2 ⟨x,u,e▸qcj _ _ _⟩
 have h1:∀a:Nat,a<P.C.n->P.Qi D (a:Int)=0->(a:Int)∈L.flatMap λx=>Xa (P.hide D []) x.1 x.2.1:=λa J I=>
  qb9 K.Qau K.Vj K.c K.Zx.ok.res (S:=λa:Nat=>(a:Int)∈L.flatMap λx=>Xa (P.hide D []) x.1 x.2.1) (λb Y M Q f=>by
   rcases hH _ Q with⟨x,u,e⟩|h
   ·exact E b Q f x u e
   ·exact absurd f (hX _ h)) (λb c Y M a2 hc f Z ⟨y,F,e⟩=>by
   obtain⟨x,u,B⟩:=List.mem_flatMap.1 Z;refine List.mem_flatMap.2 ⟨x,u,?_⟩;rw[<-e];refine q8k (hL x u) B y ?_;rw[q2x,Ii f];exact F) a J I
 have h2:∀a:Nat,a<P.C.n->P.C.get (a:Int)≠0->(a:Int)∈(L.flatMap λx=>Xa (P.hide D []) x.1 x.2.1)++((L.flatMap λx=>x.2.2.filterMap Uc)++X):=λa J h0=>by
  by_cases I:P.Qi D (a:Int)=0
  ·exact List.mem_append_left _ (h1 a J I)
  ·refine List.mem_append_right _ ?_;obtain⟨a0,_⟩:=K.first h0
   rcases K.Qau.by_ a0 J ((qhn K.c).2 h0) with hm|⟨b,M,a1,hm⟩
   ·rcases hH _ hm with⟨x,u,e⟩|h
    ·have:=(q3a (hL x u)).2;rw[e] at this;exact absurd this I
    ·exact List.mem_append_right _ h
   ·have f:=q2m hm;refine List.mem_append_left _ ?_;obtain⟨x,u,B⟩:=List.mem_flatMap.1 (h1 b M f);rcases q7e K.Vj M hm with⟨_,_,_,_,k,_⟩|_
    ·exact absurd k I
    ·have T:(a:Int)∈(P.Qd D (b:Int)).named:=hm;unfold Nd.named at T;rcases List.mem_append.1 T with h|h
     ·obtain⟨y,F,e⟩:=List.mem_map.1 h;obtain⟨c,A,_,_,_,G,_⟩:=K.Vj.kids b M (q51 f) f y F;rw[A] at e;rw[e] at G;exact absurd G I
     ·obtain⟨y,F,e⟩:=List.mem_filterMap.1 h;refine List.mem_flatMap.2 ⟨x,u,List.mem_filterMap.2 ⟨y,?_,e⟩⟩;refine qau (hL x u) B y ?_;rw[q2x,Ii f];exact F
 have A:(((List.range P.C.n).filter λa=>decide (nm P.C.now a≠0)).map λa:Nat=>(a:Int)).length<=((L.flatMap λx=>Xa (P.hide D []) x.1 x.2.1)++((L.flatMap λx=>x.2.2.filterMap Uc)++X)).length:=by
  refine qgb ?_ λx u=>?_
  ·refine List.Pairwise.map _ (R:=λa b:Nat=>a≠b) (λa b h (e:(a:Int)=(b:Int))=>h (by omega)) ?_;exact List.nodup_range.filter _
  ·obtain⟨a,J,rfl⟩:=List.mem_map.1 u;obtain⟨A,G⟩:=List.mem_filter.1 J;have A:=List.mem_range.1 A;refine h2 a A λe=>of_decide_eq_true G ?_
   unfold Ct.get at e;rw[if_pos (by omega),Int.toNat_natCast] at e;exact e
 rw[List.length_map,<-List.countP_eq_length_filter,List.length_append,List.length_append] at A;have G:∀(L:List (Nat × Int × List Qb)),Qap (P.hide D []) L->(L.flatMap λx=>Xa (P.hide D []) x.1 x.2.1).length<=(L.map λx=>x.2.2.length).sum:=by
  intro L;induction L with
  |nil=>intro _;simp
  |cons x t ih=>
   intro h;have i1:=K.Tq (h x (List.mem_cons_self ..));have i2:=ih λy F=>h y (List.mem_cons_of_mem _ F)
   rw[List.flatMap_cons,List.length_append,List.map_cons,List.sum_cons];omega
 have h5:(L.flatMap λx=>x.2.2.filterMap Uc).length=(L.map λx=>(x.2.2.filterMap Uc).length).sum:=by
  generalize L=L;induction L with
  |nil=>rfl
  |cons x t ih=>rw[List.flatMap_cons,List.length_append,List.map_cons,List.sum_cons,ih]
 have h6:=G L hL;have h7:P.C.used=(List.range P.C.n).countP λa=>decide (nm P.C.now a≠0):=rfl
 omega
end
def Pl.like (P P':Pl):Prop:=P'.S=P.S/\P'.C.done=P.C.done
theorem Pl.like.refl (P:Pl):P.like P:=⟨rfl,rfl⟩
theorem Pl.like.trans {P P' P'':Pl}(h:P.like P')(h2:P'.like P''):P.like P'':=⟨h2.1.trans h.1,h2.2.trans h.2⟩
theorem quz (P:Pl)(a:Int):P.like ⟨P.S,P.C.ref a,P.L⟩:=⟨rfl,by show (P.C.ref a).done=_;unfold Ct.ref;split<;>rfl⟩
theorem qcl (P:Pl)(a:Int):P.like ⟨P.S,P.C.Qq a,P.L⟩:=⟨rfl,by show (P.C.Qq a).done=_;unfold Ct.Qq;split<;>rfl⟩
theorem q93 (P:Pl)(N:Nd):P.like (P.Jj N):=by
 unfold Pl.Jj;split
 ·unfold Pl.lay;split
  ·exact⟨rfl,by show P.C.alloc.done=_;unfold Ct.alloc;split<;>rfl⟩
  ·exact .refl _
 ·exact .refl _
theorem qv0 (P:Pl)(a:Int)(N:Nd):P.like (P.Vp a N):=by
 unfold Pl.Vp;split
 ·exact⟨rfl,rfl⟩
 ·exact .refl _
theorem qcm:∀(l:List Int) {P P':Pl},Ul l P=some P'->P.like P'
 |[],P,P',h=>by cases h;exact .refl _
 |a::l,P,P',h=>by
  unfold Ul at h;split at h
  ·exact (quz P a).trans (qcm l h)
  ·cases h
theorem q8l:∀(l:List Int) {P P':Pl},q31 l P=some P'->P.like P'
 |[],P,P',h=>by cases h;exact .refl _
 |a::l,P,P',h=>by
  unfold q31 at h;split at h
  ·exact (qcl P a).trans (q8l l h)
  ·cases h
theorem q4l {P P':Pl}{s:Qs}{i j:Nat}(h:P.Q8 s i j=some P'):P.like P':=by
 unfold Pl.Q8 at h;split at h
 ·exact qcm _ h
 ·split at h
  ·cases h;exact .refl _
  ·exact q8l _ h
theorem qgc {P P':Pl}{D:DM}{s:Qs}{i:Nat}(h:P.near D s i=some P'):P.like P':=by
 unfold Pl.near at h;split at h
 ·exact q4l h
 ·cases h
theorem qr5 {P P':Pl}{D:DM}{s t:Qs}{b:Nd}{x:O9}(h:P.have_ D s b t=some (x,P')):P.like P':=by
 unfold Pl.have_ at h;split at h
 ·cases h;exact .refl _
 ·split at h
  ·obtain⟨q,h1,h2⟩:=Option.map_eq_some_iff.1 h
   cases h2;exact qgc h1
  ·obtain⟨q,h1,h2⟩:=Option.map_eq_some_iff.1 h
   cases h2;exact qgc h1
theorem q7u {P P':Pl}{s:Qs}(h:P.leave s=some P'):P.like P':=by
 unfold Pl.leave at h;split at h
 ·cases h;exact .refl _
 ·split at h
  ·cases h;exact qcl P _
  ·cases h
theorem q6q:∀(l:List Qs) {P P':Pl} {r u:List Nd} {ks f:List Qj},Gs l P r ks=some (P',u,f)->P.like P'
 |[],P,P',r,u,ks,f,h=>by unfold Gs at h;cases h;exact .refl _
 |s::l,P,P',[],u,ks,f,h=>by
  unfold Gs at h;split at h
  ·rename_i y e;exact (q7u e).trans (q6q l h)
  ·cases h
 |s::l,P,P',b::r,u,ks,f,h=>by
  unfold Gs at h;split at h
  ·split at h
   ·rename_i y e;exact (q7u e).trans (q6q l h)
   ·cases h
  ·split at h
   ·exact (qv0 P _ _).trans (q6q l h)
   ·cases h
theorem qkl:∀(l:List Nd) {P P':Pl} {ks:List Qj} {q:Option (List Qj)},J7 l P ks=some (P',q)->P.like P'
 |[],P,P',ks,q,h=>by unfold J7 at h;cases h;exact .refl _
 |b::l,P,P',ks,q,h=>by
  unfold J7 at h;split at h
  ·exact (q93 P b).trans (qkl l h)
  ·split at h
   ·cases h;exact q93 P b
   ·cases h
theorem q94 {P P':Pl}{x:O9}{q:Option (List Qj)}(h:P.Y3 x=some (P',q)):P.like P':=by
 unfold Pl.Y3 at h;split at h
 ·rename_i u f y e;exact (q6q _ e).trans (qkl _ h)
 ·cases h
theorem qv1 {P P':Pl}{s:Qs}{b:Nd}{r:Option Int}(h:P.top s b=some (P',r)):P.like P':=by
 unfold Pl.top at h;split at h
 ·obtain⟨q,h1,h2⟩:=Option.map_eq_some_iff.1 h
  cases h2;exact q7u h1
 ·split at h
  ·rename_i f u e;have h0:=q94 e;split at h
   ·cases h;exact h0
   ·split at h
    ·cases h;exact h0
    ·split at h
     ·cases h;exact h0.trans (q93 f _)
     ·split at h
      ·cases h;exact h0.trans (q93 f _)
      ·cases h
  ·rename_i f e
   cases h;exact q94 e
  ·cases h
theorem qav {D:DM}:∀(way:List Qs) {P P':Pl} {s:Qs} {i j:Nat} {f:Nd} {r:Option Int},Y8 D way P s i j f=some (P',r)->P.like P'
 |[],P,P',s,i,j,f,r,h=>by
  unfold Y8 at h;split at h
  ·rename_i y e;exact (q4l e).trans (qv1 h)
  ·cases h
 |t::way,P,P',s,i,j,f,r,h=>by
  unfold Y8 at h;split at h
  ·rename_i y e;split at h
   ·rename_i x E B;have h2:=(q4l e).trans (qr5 B);split at h
    ·rename_i A F u;exact (h2.trans (q94 u)).trans (qav way h)
    ·rename_i A u
     cases h;exact h2.trans (q94 u)
    ·cases h
   ·cases h
  ·cases h
theorem qr6 {P P':Pl}{D:DM}{root:Int}{x:Qb}{r:Option Int}(h:P.Et D root x=some (P',r)):P.like P':=by
 unfold Pl.Et at h;split at h
 ·exact qav _ h
 ·cases h
theorem qr7 {P P':Pl}{D:DM}{root:Int}{k:Kd}{r:Option Int}(h:P.Fp D root k=some (P',r)):P.like P':=by
 unfold Pl.Fp at h;split at h
 ·exact qav _ h
 ·cases h
theorem qr8 {P P':Pl}(h:P.like P')(hn:P'.C.n=P.C.n):P'.C.kept=P.C.kept:=by
 unfold Ct.kept;rw[h.2,hn]
theorem qr9 (n:Nat):(Ct.zero n).kept=0:=by
 unfold Ct.kept;refine List.countP_eq_zero.2 λa e h=>of_decide_eq_true h ?_
 show (List.replicate n (0:Int)).getD a 0=0;rw[List.getD_eq_getElem?_getD,List.getElem?_replicate];split<;>rfl
theorem qra {w:World}{p:Nat}{R:Int->Nd × Int}(H:Src w p R)(ht:Tab w)(root:Int)(fr «to»:Kd)(most:Int)(K:root≠0->Zt R (Ui R root) root<=100000) :
  Calls Tryz.prog 18 #[.pointer (some ⟨p,0,none⟩),.int .i64 root,.agg #[.int .i64 fr.obj,.int .i64 fr.kind,.int .i64 fr.off],.agg #[.int .i64 «to».obj,.int .i64 «to».kind,.int .i64 «to».off],.int .i64 most] w λe w'=>∃A n c,e=.returned (.tuple #[.slice A n c,.int .i64 (D9 R fr «to» most root).2])/\J4 w' w.1.size A n c (D9 R fr «to» most root).1/\Below w.1.size w w':=by
 obtain⟨G,f⟩:∃G,D9 R fr «to» most root=G:=⟨_,rfl⟩;rw[f];unfold D9 at f;obtain⟨K1,K2,b2⟩:=Qa4 w fr «to»;have Q:Below w.1.size w (((w.alloc (.cells #[.int .i64 fr.obj,.int .i64 fr.kind,.int .i64 fr.off] 45)).alloc (.cells #[.int .i64 «to».obj,.int .i64 «to».kind,.int .i64 «to».off] 45)).alloc (.cells #[.int .i64 most] 3)):=b2.alloc (by simp;omega) _;have a2:Below ((w.alloc (.cells #[.int .i64 fr.obj,.int .i64 fr.kind,.int .i64 fr.off] 45)).alloc (.cells #[.int .i64 «to».obj,.int .i64 «to».kind,.int .i64 «to».off] 45)).1.size _ (((w.alloc (.cells #[.int .i64 fr.obj,.int .i64 fr.kind,.int .i64 fr.off] 45)).alloc (.cells #[.int .i64 «to».obj,.int .i64 «to».kind,.int .i64 «to».off] 45)).alloc (.cells #[.int .i64 most] 3)):=Qk;have F:=K1.below a2 K1.lt;have a1:=K2.below a2 K2.lt;have V3:(((w.alloc (.cells #[.int .i64 fr.obj,.int .i64 fr.kind,.int .i64 fr.off] 45)).alloc (.cells #[.int .i64 «to».obj,.int .i64 «to».kind,.int .i64 «to».off] 45)).alloc (.cells #[.int .i64 most] 3)).1[w.1.size+2]?=some (.cells #[.int .i64 most] 3 (0,0)):=by
  have:=heap_alloc_new ((w.alloc (.cells #[.int .i64 fr.obj,.int .i64 fr.kind,.int .i64 fr.off] 45)).alloc (.cells #[.int .i64 «to».obj,.int .i64 «to».kind,.int .i64 «to».off] 45)) (.cells #[.int .i64 most] 3);rwa [World.size_alloc,World.size_alloc] at this
 have z3:(((w.alloc (.cells #[.int .i64 fr.obj,.int .i64 fr.kind,.int .i64 fr.off] 45)).alloc (.cells #[.int .i64 «to».obj,.int .i64 «to».kind,.int .i64 «to».off] 45)).alloc (.cells #[.int .i64 most] 3)).1.size=w.1.size+3:=by simp
 have c3:=cell_of_one V3;clear K1 K2 b2 a2;by_cases h0:root=0
 ·rw[if_pos (.inl h0)] at f;subst h0;subst f;go_enter Tryz.func18,Tryz.ntmps18
  go_wp2_with fail
  go_ret2;exact⟨none,0,0,rfl,Ox _ _,Q⟩
 ·have g1:(root==0)=false:=by simp[h0]
  have g2:decide (root=0)=false:=decide_eq_false h0;by_cases hm:most<1
  ·rw[if_pos (.inr hm)] at f;subst f;clear h0 K;go_enter Tryz.func18,Tryz.ntmps18
   go_wp2_with fail
   go_ret2;exact⟨none,0,0,rfl,Ox _ _,Q⟩
  ·rw[if_neg (by rintro (h|h);exact h0 h;exact hm h)] at f;have hc:=K h0;have Hn:=Lib.hid (H.node _ Q (ht.below Q ht.1) root);have I:=H.may root;obtain⟨M,E,hR⟩:∃M E,R root=(M,E):=⟨_,_,rfl⟩;have HR:=Lib.hid hR;rw[hR] at Hn I;have I:E=0->M.may=true:=I;have hl:Ui R root=M.lvl.toNat:=by unfold Ui;rw[hR]
   rw[hl] at f hc;clear hR hl h0 K;by_cases hE:E=0
   ·subst hE;have Y:=I rfl;have d0:0<=M.lvl/\M.lvl<8:=by
     by_cases h1:M.lvl=0
     ·omega
     ·have:=Pe Y h1;omega
    obtain⟨l,hl⟩:∃l,M.lvl.toNat=l:=⟨_,rfl⟩;have a7:M.lvl=(l:Int):=by omega
    rw[hl] at f hc;rw[q92 HR.out [] a7] at f;rw[q3g HR.out] at hc;have Hc:=Lib.hid hc;have HG:=Lib.hid f;have c7:=Lib.hid a7;have b6:=F.c0;have b7:=F.c1;have b8:=F.c2;clear hc f a7 hl d0 I;go_enter Tryz.func18,Tryz.ntmps18
    go_wp2_with fail
    refine Hn.out.mono ?_;generalize ((w.alloc (.cells #[.int .i64 fr.obj,.int .i64 fr.kind,.int .i64 fr.off] 45)).alloc (.cells #[.int .i64 «to».obj,.int .i64 «to».kind,.int .i64 «to».off] 45)).alloc (.cells #[.int .i64 most] 3)=w3 at F a1 V3 z3 c3 Q b6 b7 b8 ⊢;rintro e u ⟨A1,n1,c1,B1,m1,d1,rfl,b1,b0,hI,X,b4⟩;have Hd:=qdp b1 b0 hI X;have N4:NB (u.alloc (.cells #[.int .i64 0,.slice none 0 0,.slice none 0 0] 77)) u.1.size 0 none 0 0 none 0 0:=NB.new u _ _ _ _ _ _ _ _;have b5:Below u.1.size u (u.alloc (.cells #[.int .i64 0,.slice none 0 0,.slice none 0 0] 77)):=Qk;have z4:=b4.size;clear hI X Hn c3 b6 b7 b8;go_wp2_with (first
     |(refine Gp rfl (.tmp 12) _ rfl u.1.size rfl M.lvl A1 n1 c1 B1 m1 d1 rfl N4 ?_;intro B N6 T6;have J:Turn (λ_=>False) u B:=(Qx (S:=λ_=>False) b5).trans T6 (λk h=>.inr (by have h:k=u.1.size:=h;omega));have z6:=J.size;have d2:=N6.lt;have a6:Below B.1.size B (B.alloc (.cells #[.slice none 0 0] 41)):=Qk;have T:Turn (λ_=>False) w3 (B.alloc (.cells #[.slice none 0 0] 41)):=((Qx (S:=λ_=>False) b4).trans J (λ_ h=>.inl h)).trans (Qx (S:=λ_=>False) a6) (λ_ h=>.inl h);have K7:=F.keep (T.block _ F.lt (λh=>h));have k0:=K7.c0;have k1:=K7.c1;have k2:=K7.c2;have N7:=N6.below a6 N6.lt;have q0:=N7.c0;have q1:=N7.c1;have q2:=N7.c2)
     |fail)
    have c8:Turn (λ_=>False) u (B.alloc (.cells #[.slice none 0 0] 41)):=J.trans (Qx (S:=λ_=>False) a6) (λ_ h=>.inl h);have c6:=Hd.turn c8 (λ_ _ _ h=>h);have V7:(B.alloc (.cells #[.slice none 0 0] 41)).1[B.1.size]?=some (.cells #[.slice none 0 0] 41 (0,0)):=heap_alloc_new B _;have z7:(B.alloc (.cells #[.slice none 0 0] 41)).1.size=B.1.size+1:=by simp
    have S7:Ip (B.alloc (.cells #[.slice none 0 0] 41)) w.1.size (B.1.size+1) B.1.size (w.1.size+2) (w.1.size+1) most «to» none []:=by
     have c9:=a1.lt;exact⟨⟨_,0,V7,Ox _ _,λk h=>(by cases h)⟩,⟨_,(T.block _ (by omega) (λh=>h)).trans V3⟩,a1.keep (T.block _ c9 (λh=>h)),by omega,⟨by omega,by omega,by omega,by omega,by omega,by omega⟩⟩
    have B7:Below w.1.size w (B.alloc (.cells #[.slice none 0 0] 41)):=Q.trans (T.below (λ_ h=>h.elim) Q.size);clear k0 k1 k2 q0 q1 q2;refine (qfz H ht fr «to» most (lim:=w.1.size) (base:=B.1.size+1) (vb:=B.1.size) (mb:=w.1.size+2) (tb:=w.1.size+1) (by omega) rfl l _ M w3.1.size u.1.size A1 n1 c1 B1 m1 d1 none [] B7 S7 c6 (λk h1 h2 h=>by
     rcases h with h|h
     ·omega
     ·cases h) (by omega) Y c7.out (Nat.zero_le _) (by have:=Hc.out;simpa using this)).mono ?_
    rw[HG.out];rintro e w8 ⟨rfl,A8,h8,X8,d3⟩;have B8:Below w.1.size w w8:=B7.trans (X8.below (λk hk=>by
     rcases hk with h|h
     ·omega
     ·cases h) B7.size)
    by_cases y:G.2=0
    ·have g3:(G.2==0)=true:=by simp[y]
     have g4:(G.2 != 0)=false:=by simp[y]
     obtain⟨⟨t,c,hv,row,-⟩,-⟩:=h8 y;have d4:=cell_of_one hv;have b9:=Lib.hid y;clear y;go_wp2_with fail
     go_ret2;exact⟨A8,_,c,by rw[b9.out];rfl,row,B8⟩
    ·have g3:(G.2==0)=false:=by simp[y]
     have g4:(G.2 != 0)=true:=by simp[y]
     have Z:G.1=[]:=by
      have h:=y;rw[<-HG.out] at h ⊢;exact qmk _ _ _ h
     have a8:=Lib.hid Z;clear y h8 Z;go_wp2_with fail
     go_ret2;exact⟨none,0,0,rfl,by rw[a8.out];exact Ox _ _,B8⟩
   ·have g3:(E==0)=false:=by simp[hE]
    have g4:(E != 0)=true:=by simp[hE]
    rw[q6o (by rw[HR.out];exact hE)] at f;rw[HR.out] at f;subst f;clear hE I hc;go_enter Tryz.func18,Tryz.ntmps18
    go_wp2_with fail
    refine Hn.out.mono ?_;rintro e u ⟨A1,n1,c1,B1,m1,d1,rfl,b1,b0,hI,X,b4⟩;have N4:NB (u.alloc (.cells #[.int .i64 0,.slice none 0 0,.slice none 0 0] 77)) u.1.size 0 none 0 0 none 0 0:=NB.new u _ _ _ _ _ _ _ _;have b5:Below u.1.size u (u.alloc (.cells #[.int .i64 0,.slice none 0 0,.slice none 0 0] 77)):=Qk;clear hI X Hn c3;go_wp2_with (first
     |(refine Gp rfl (.tmp 12) _ rfl u.1.size rfl M.lvl A1 n1 c1 B1 m1 d1 rfl N4 ?_;intro B N6 T6)
     |fail)
    go_ret2;have J:Turn (λ_=>False) u B:=(Qx (S:=λ_=>False) b5).trans T6 (λk h=>.inr (by have h:k=u.1.size:=h;omega));exact⟨none,0,0,rfl,Ox _ _,Q.trans ((b4.mono Q.size).trans (J.below (λ_ h=>h.elim) (by have:=b4.size;have:=Q.size;omega)))⟩
structure Told (w:World)(p:Nat)(R:Int->Nd × Int)(root:Int)(its:List Qb):Prop where
 src:Src w p R
 tree:Ji R root its
 Ql:Ql its
 len:its.length<=150
theorem Told.below {w w':World}{p:Nat}{R:Int->Nd × Int}{root:Int}{its:List Qb}(h:Told w p R root its)(hb:Below w.1.size w w'):Told w' p R root its:=⟨h.src.below hb,h.tree,h.Ql,h.len⟩
section
variable {w:World}{p:Nat}{R:Int->Nd × Int}{root:Int}{its:List Qb}
theorem Told.get (h:Told w p R root its)(ht:Tab w)(k:Kd)(G:List UInt8 × Int)(hG:Ro (valOf its k)=G) :
  Calls Tryz.prog 71 #[.pointer (some ⟨p,0,none⟩),.int .i64 root,.agg #[.int .i64 k.obj,.int .i64 k.kind,.int .i64 k.off]] w λe w'=>∃A n c,e=.returned (.tuple #[.slice A n c,.int .i64 G.2])/\Sl w' A n c G.1/\Below w.1.size w w':=by
 have:=qup h.src ht root k;rw[qtz h.tree h.Ql,hG] at this;exact this
theorem Told.Qam (h:Told w p R root its)(ht:Tab w)(fr «to»:Kd)(most:Int)(L:List Qb)(hL:(within fr «to» its).take most.toNat=L) :
  Calls Tryz.prog 18 #[.pointer (some ⟨p,0,none⟩),.int .i64 root,.agg #[.int .i64 fr.obj,.int .i64 fr.kind,.int .i64 fr.off],.agg #[.int .i64 «to».obj,.int .i64 «to».kind,.int .i64 «to».off],.int .i64 most] w λe w'=>∃A n c,e=.returned (.tuple #[.slice A n c,.int .i64 0])/\J4 w' w.1.size A n c L/\Below w.1.size w w':=by
 have:=qra h.src ht root fr «to» most (λh0=>by have:=qml (qqu R) h.tree h0;have:=h.len;omega);rw[qpf h.tree h.Ql,hL] at this;exact this
end
def Um (r:Int):List Int:=if r=0 then [] else [r]
structure Ed (b:Nat)(w:World)(d p:Nat)(U:Nat->Prop)(D:DM)(P:Pl)(H:List Int)(m:Nat)(g:Int):Prop where
 sys:∃S0 S T,Qg b w d p S0 S T D P/\(∀k,S0 k->U k)/\∀k,S k->U k
 low:∀k,U k->b<=k/\k<w.heap.size
 tab:Tab w
 keep:∃S0 C0,Keep D S0 C0 [] H P
 Y0:D.Y0 m
 gen:P.S.gen<=g
section
variable {b:Nat}{w w':World}{d p:Nat}{U:Nat->Prop}{D:DM}{P:Pl}{H H0:List Int}{m:Nat}{g:Int}{root:Int}{its:List Qb}
theorem Ed.tidy (E:Ed b w d p U D P H m g):P.tidy:=by
 obtain⟨_,_,K⟩:=E.keep;exact⟨K.Zx.kind,K.laid⟩
theorem Ed.below (E:Ed b w d p U D P H m g)(hb:Below w.1.size w w'):Ed b w' d p U D P H m g:=by
 obtain⟨S0,S,T,h,h0,h1⟩:=E.sys;exact⟨⟨S0,S,T,h.below hb,h0,h1⟩,λk e=>⟨(E.low k e).1,by have:=(E.low k e).2;have:=hb.size;omega⟩,E.tab.below hb E.tab.1,E.keep,E.Y0,E.gen⟩
theorem Ed.src (E:Ed b w d p U D P H m g):Src w p (P.store D):=by
 obtain⟨S0,S,T,h,h0,h1⟩:=E.sys;obtain⟨_,_,K⟩:=E.keep;exact qz6 h.Az h.pool K.Zx.kind K.Zx.good
structure Ai (b:Nat)(w w':World)(d p:Nat)(U:Nat->Prop)(D:DM)(P P':Pl)(r:Int)(H0:List Int)(its:List Qb)(m:Nat)(g:Int):Prop where
 ed:Ed b w' d p U D P' (Um r++H0) m g
 tree:Ji (P'.store D) r its
 like:P.like P'
 n:P'.C.n=P.C.n
 free:P.C.free<=P'.C.free+17
 old:∀l a t,a∈H0->Qm (P.store D) l a t->Qm (P'.store D) l a t
 turn:Turn U w w'
theorem Ed.free (E:Ed b w d p U D P H m g)(n:Nat)(hn:P.C.free=n):Calls Tryz.prog 23 #[.pointer (some ⟨p,0,none⟩)] w λe w'=>e=.returned (.int .i64 (n:Int))/\w=w':=by
 obtain⟨u,y,A,f,h0,h1⟩:=E.sys;exact qp2 f.pool n hn
end
theorem qxx {i:Int}(hi:0<=i/\i<=2147483647):Ctx i [] []:=⟨hi,λ_ h=>absurd h List.not_mem_nil,λ_ h=>absurd h List.not_mem_nil,List.Pairwise.nil,List.Pairwise.nil,λ_ h=>absurd h List.not_mem_nil,λ_ h=>absurd h List.not_mem_nil⟩
theorem qgd {R:Int->Nd × Int}(i o:Int)(v:List UInt8):Dat R ⟨⟨i,2,o⟩,v⟩:=λc e=>by
 have:Uc ⟨⟨i,2,o⟩,v⟩=none:=if_neg λh=>by have:=h.1;simp at this
 rw[this] at e
 cases e
theorem qge (i o:Int)(v:List UInt8):nmI ⟨⟨i,2,o⟩,v⟩=[]:=by
 have:Uc ⟨⟨i,2,o⟩,v⟩=none:=if_neg λh=>by have:=h.1;simp at this
 unfold nmI;rw[this];rfl
section
variable {b:Nat}{w w':World}{d p:Nat}{U:Nat->Prop}{D:DM}{P:Pl}{m:Nat}{g:Int}{root:Int}{its:List Qb}
theorem Ed.Qce (E:Ed b w d p U D P (Um root++[]) m g)(hT:Ji (P.store D) root its):P.C.used<=2*its.length/\P.C.n<=P.C.free+(P.C.first+P.C.kept+2*its.length):=by
 obtain⟨S0,C0,K⟩:=E.keep;have h2:=qr4 P.C;have A:P.C.used<=2*its.length:=by
  rcases hT with⟨rfl,rfl⟩|⟨l,h0,y,_⟩
  ·have h1:=K.used (L:=[]) (X:=[]) (λx u=>absurd u List.not_mem_nil) (λa f=>absurd (show a∈([]:List Int) from f) List.not_mem_nil) (λa f=>absurd f List.not_mem_nil);simpa using h1
  ·have e:Um root=[root]:=if_neg (by omega);rw[e] at K;have h1:=K.used (L:=[(l,root,its)]) (X:=[]) (λx u=>by
    obtain rfl:=List.mem_singleton.1 u;exact q4k.2 y) (λa f=>by
    obtain rfl:=List.mem_singleton.1 (show a∈[root] from f);exact .inl ⟨_,List.mem_singleton.2 rfl,rfl⟩) (λa f=>absurd f List.not_mem_nil)
   have B:=List.length_filterMap_le Uc its;simp at h1;omega
 exact⟨A,by omega⟩
theorem qrb {C:Ct}(h:C.n=512):C.first<=20:=by
 unfold Ct.first
 rw[h];decide
end
theorem qcn (n:Nat)(hn:Qa n)(w:World)(Z:Tab w) :
  Calls Tryz.prog 13 #[.int .i64 n] w λe w'=>∃p d U D,e=.returned (.pointer (some ⟨p,0,none⟩))/\Ed w.1.size w' d p U D (Pl.fresh n) [] 100 2/\Below w.1.size w w'/\(∀k,U k->w.1.size<=k):=by
 have hG:=Z.1;have h1:32<=n:=hn.1;have h2:n<=2048:=hn.2;go_enter Tryz.func13,Tryz.ntmps13
 go_wp2_with fail
 refine (qwk n hn w).mono ?_;rintro e w1 ⟨d,rfl,Y,G⟩;have t1:=Z.below G hG;go_wp2_with fail
 refine (qhl Y ⟨rfl,rfl⟩ (by omega) t1 (qjc n) (by omega)).mono ?_;rintro e J ⟨p,q,rfl,u⟩;have F:(DM.mk0 n).n=n:=rfl;rw[F] at u;have y:=(q6i (Xq n) (qjc n)).mono (m':=100) (by have:=qz5 (n:=n) h2;omega);have I:=qmu h1 h2;obtain⟨X,B⟩:∃D,(DM.mk0 n).Qz (Xq n)=D:=⟨_,rfl⟩;rw[B] at u y I;obtain⟨P,M⟩:∃P,Pl.fresh n=P:=⟨_,rfl⟩;have hg:P.S.gen=1:=by rw[<-M];rfl
 rw[M] at u I;have A:=qz4 (b:=w.1.size) u (λk f=>f) G.size;have t2:=t1.turned u.turn (by omega);have z1:=G.size;have K:Below w.1.size w J:=G.trans (u.turn.below (λk f=>f) z1);obtain⟨S0,S,A⟩:=A;obtain⟨T,Q⟩:∃T:Nat->Prop,(λk=>w.1.size<=k/\k<J.1.size)=T:=⟨_,rfl⟩;have E:∀k,T k->w.1.size<=k/\k<J.1.size:=λk f=>by rw[<-Q] at f;exact f
 rw[Q] at A;have E2:Ed w.1.size J d p T X P [] 100 2:=⟨⟨S0,S,T,A,A.sub,A.Aw⟩,E,t2,⟨_,_,I⟩,y,by omega⟩;clear u Y Q B I y F;go_wp2_with fail
 go_ret;exact⟨p,d,T,X,rfl,M▸E2,K,λk f=>(E k f).1⟩
theorem qkm (n:Nat):(Pl.fresh n).C.n=n:=Ct.Zd n
section
variable {D:DM}{S0:Sp}{C0:Ct}{O H:List Int}{P P' P'':Pl}
structure Only (D:DM)(P P':Pl):Prop where
 get:∀a,P'.C.get a≠0->P.C.get a≠0
 store:∀a,P'.C.get a≠0->P'.store D a=P.store D a
 like:P.like P'
 n:P'.C.n=P.C.n
theorem Only.trans (h:Only D P P')(h2:Only D P' P''):Only D P P'':=
 ⟨λa e=>h.get a (h2.get a e),λa e=>(h2.store a e).trans (h.store a (h2.get a e)),h.like.trans h2.like,h2.n.trans h.n⟩
end
section
open Go.ChangeShapes Go.WideShapes Go.ChangeAt Go.Deep
structure Qbs where
 z:Int
 k:Kd
 V:Option Addr
 q:Nat
 c:Nat
 v:List UInt8
structure Qbs.here (o:Qbs)(W:World):Prop where
 z:i64 o.z
 off:i64 o.k.off
 sl:Sl W o.V o.q o.c o.v
 few:o.q<=140737488355328
section
variable {H:Type}{enc:TypeId × Value->H}{W:World}
end
end
