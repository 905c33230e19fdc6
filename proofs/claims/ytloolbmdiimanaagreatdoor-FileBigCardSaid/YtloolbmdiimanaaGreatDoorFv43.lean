/- The nodes that some roots lead «to», found one by one -/
import Derived.Test.YtloolbmdiimanaaGreatDoorFv36
import Derived.Test.YtloolbmdiimanaaGreatDoorFv39
import Derived.Test.YtloolbmdiimanaaGreatDoorFv40
import Derived.Test.YtloolbmdiimanaaGreatDoorFv41
import Derived.Lib.Strings
namespace Go.Proofs.YtloolbmdiimanaaGreatDoor
open Go Go.RowKit Go.Proofs Tryz
structure Qcj (R:Int->Nd × Int)(roots:LI)(Ns:List (Int × Nd))(seen:Nat->Bool)(todo:LI):Prop where
 got:∀x∈Ns,R x.1=(x.2,0)/\∃c:Nat,x.1=(c:Int)/\seen c=true
 all:∀c:Nat,seen c=true->(R (c:Int)).2=0->((c:Int),(R (c:Int)).1)∈Ns
 one:Ns.Pairwise λx y=>x.1≠y.1
 root:∀a:Nat,0<a->a<2048->(a:Int)∈roots->seen a=true\/(a:Int)∈todo
 kid:∀x∈Ns,∀y∈x.2.kids,∀a:Nat,y.a=(a:Int)->0<a->a<2048->seen a=true\/(a:Int)∈todo
section
variable {R:Int->Nd × Int}{roots:LI}{Ns:List (Int × Nd)}{seen:Nat->Bool}{r:LI}{x:Int}
end
theorem que (n:Nat)(a:Int):(Ct.zero n).get a=0:=by
 unfold Ct.get Ct.zero nm;split
 ·show (List.replicate n (0:Int)).getD a.toNat 0=0;rw[AG,List.getElem?_replicate];split<;>rfl
 ·rfl
theorem O0 (P:Pl)(D:DM):P.hide D []=P.tell D:=by
 funext a
 exact AB (by simp)
theorem qmv (P:Pl)(D:DM)(a:Int):(P.tell D a).1.named=(P.Qd D a).named:=by
 by_cases e:P.Qe D a=0
 ·rw[Io e];rfl
 ·rw[qa8 e];by_cases h0:P.C.get a=0
  ·rw[q2z h0]
  ·rw[qbd h0 e];rfl
theorem q69 {P:Pl}{D:DM}:∀{l:Nat} {a:Int} {its:List Qb},Qm (P.tell D) l a its↔Qm (P.store D) l a its
 |0,a,its=>by
  constructor
  ·intro h;have e:P.Qe D a=0:=qes (by rw[h.1]) (by rw[h.1];exact Int.le_refl 0);exact⟨by rw[<-Io e];exact h.1,h.2⟩
  ·intro h;have e:P.Qe D a=0:=congrArg Prod.snd h.1;exact⟨by rw[Io e];exact h.1,h.2⟩
 |l+1,a,its=>by
  constructor
  ·rintro⟨kids,parts,h1,h2,y,A,f⟩;have e:P.Qe D a=0:=qes (by rw[h1]) (by rw[h1];exact Int.natCast_nonneg (l+1));exact⟨kids,parts,by rw[<-Io e];exact h1,h2,y,A,λj u=>⟨q69.1 (f j u).1,(f j u).2⟩⟩
  ·rintro⟨kids,parts,h1,h2,y,A,f⟩;have e:P.Qe D a=0:=congrArg Prod.snd h1;exact⟨kids,parts,by rw[Io e];exact h1,h2,y,A,λj u=>⟨q69.2 (f j u).1,(f j u).2⟩⟩
theorem q2c {P:Pl}{D:DM}{l:Nat}{a:Int}{its:List Qb}:Qm (P.hide D []) l a its↔Qm (P.store D) l a its:=by rw[O0];exact q69
theorem q98 {P:Pl}{D:DM}{root:Int}{its:List Qb}:Xk (P.hide D []) root its↔Xk (P.store D) root its:=by
 unfold Xk;constructor
 ·rintro (h|⟨l,h1,h2,e⟩)
  ·exact .inl h
  ·exact .inr ⟨l,h1,q2c.1 h2,e⟩
 ·rintro (h|⟨l,h1,h2,e⟩)
  ·exact .inl h
  ·exact .inr ⟨l,h1,q2c.2 h2,e⟩
theorem qmw {n:Nat}(h1:32<=n)(h2:n<=2048):Keep ((DM.mk0 n).Qx (Xt n)) (fmtS n) (Ct.zero n) [] [] (Pl.fresh n):=by
 obtain⟨_,h,_⟩:=qjn (D:=DM.mk0 n) h1 h2 rfl ⟨rfl,rfl⟩;have e:∀a:Int,(Pl.fresh n).C.get a=0:=que n;refine⟨⟨qt0 h1 h2,h,λa b y=>(by cases y)⟩,λa u=>absurd (e a) (q2r u),⟨λa _ _=>?_⟩,λx A=>(by cases A),λa _ h0=>absurd (e a) h0⟩;have f:∀b,(Pl.fresh n).cnt b=0:=λb=>by unfold Pl.cnt;rw[e];rfl
 rw[f];have:refs (λb=>((Pl.fresh n).hide ((DM.mk0 n).Qx (Xt n)) [] (b:Int)).1.named) (Pl.fresh n).C.n (Pl.fresh n).cnt a=0:=qda λb _=>by rw[f];rfl
 rw[this];rfl
section
variable {D:DM}{S0:Sp}{C0:Ct}{H:LI}{P:Pl}
theorem Keep.Qa0 (K:Keep D S0 C0 [] H P):P.Gj D H:=J4.same K.Gj (λ_ _=>rfl) λb _ _=>by rw[O0,qmv];rfl
theorem Keep.Vq (K:Keep D S0 C0 [] H P):P.Vq D:=by
 have L:=λ{a:Nat} (f:P.Qe D (a:Int)=0)=>by
  have e:=Io f;have hm:=q9g K.Zk f;have:=K.Qa1 (x:=(a:Int)) (by rw[O0,e];exact f) (by rw[O0,e];exact (q7p hm).1);rw[O0] at this;exact this
 refine⟨λa _ _ f=>q9g K.Zk f,λa _ _ f x B c E=>?_,λa _ _ f x B=>?_⟩
 ·have h1:=(L f).data x (by rw[Io f];exact B) c E;exact (q5n K.Zk h1).2
 ·obtain⟨I,F,J,_⟩:=(L f).kids x (by rw[Io f];exact B);have A:=q9g K.Zk f;have G:(P.tell D (a:Int)).1.lvl=(P.Qd D (a:Int)).lvl:=by rw[Io f];rfl
  have M:1<=(P.Qd D (a:Int)).lvl:=by
   refine Classical.byContradiction λE=>?_
   have h0:(P.Qd D (a:Int)).lvl=0:=by have:=(q7p A).1;omega
   have e:(P.Qd D (a:Int)).kids=[]:=congrArg Nd.kids (q1c A h0).1;rw[e] at B
   cases B
  rw[G] at F;have u:=qes I (by omega);obtain⟨c,e,E⟩:=Uf (qbe I);have y:P.C.get (c:Int)≠0:=by rw[<-e];exact qbe I
  obtain⟨c0,_⟩:=K.first y
  rw[Io u] at F J;rw[e] at F J u;exact⟨c,e,c0,E,y,u,F,J⟩
end
theorem qgn {α:Type}:∀{l l':List α},l.Nodup->(∀x∈l,x∈l')->l.length<=l'.length
 |[],_,_,_=>AW _
 |x::t,l',hn,hs=>by
  obtain⟨h1,h2⟩:=List.nodup_cons.1 hn;obtain⟨s,u,rfl⟩:=List.append_of_mem (hs x (AP ..));have:=qgn (l':=s++u) h2 λy e=>by
   have f:=hs y (AO _ e);rcases List.mem_append.1 f with h|h
   ·exact List.mem_append_left _ h
   ·rcases List.mem_cons.1 h with h|h
    ·exact absurd (h▸e) h1
    ·exact AU _ h
  rw[AD,AX] at *;simp only[AX];omega
theorem qkx {α:Type}{p a b c d:α->Bool}:∀(l:List α),(∀x∈l,p x=true->a x=true\/b x=true\/c x=true\/d x=true)->l.countP p<=l.countP a+(l.countP b+(l.countP c+l.countP d))
 |[],_=>by simp
 |x::t,h=>by
  have A:=qkx t λy u=>h y (AO _ u)
  have f:=h x (AP ..);simp only[List.countP_cons];by_cases e:p x=true
  ·rcases f e with h|h|h|h<;>rw[AA h,AA e]<;>split<;>omega
  ·rw[AB e];omega
def Xa (R:Int->Nd × Int):Nat->Int->LI
 |0,a=>[a]
 |l+1,a=>a::(R a).1.kids.flatMap λx=>Xa R l x.a
theorem qct (R:Int->Nd × Int):∀(l:Nat) (a:Int),a∈Xa R l a
 |0,_a=>AP ..
 |_l+1,_a=>AP ..
theorem q8n {R:Int->Nd × Int}:∀{l:Nat} {r b:Int} {its:List Qb},Qm R l r its->b∈Xa R l r->∀x∈(R b).1.kids,x.a∈Xa R l r
 |0,r,b,its,h,f,x,hx=>by
  obtain rfl:b=r:=List.mem_singleton.1 f;rw[h.1] at hx
  cases hx
 |l+1,r,b,its,h,f,x,hx=>by
  rcases List.mem_cons.1 f with rfl|f
  ·exact AO _ (List.mem_flatMap.2 ⟨x,hx,qct R l x.a⟩)
  ·obtain⟨k,y,f⟩:=List.mem_flatMap.1 f;obtain⟨kids,parts,e,G,I,J,F⟩:=h;rw[e] at y;obtain⟨j,u,E⟩:=List.getElem_of_mem y;have B:Qi kids j=k:=by
    have:=Oz u;rw[AC u,E] at this;exact (OI this).symm
   have A:=(F j u).1;rw[B] at A;have:=q8n A f x hx;refine AO _ (List.mem_flatMap.2 ⟨k,?_,this⟩);rw[e];exact y
theorem qay {R:Int->Nd × Int}{l:Nat}(h:∀y:Zx,good1 R l y->(Xa R l y.1).length+2<=y.2.length):∀(G:List Zx),(∀x∈G,good1 R l x)->(G.flatMap λx=>Xa R l x.1).length+2*G.length<=(G.map (·.2)).flatten.length
 |[],_=>by simp
 |y::G,hg=>by
  have h1:=h y (hg y (AP ..));have h2:=qay h G λx e=>hg x (AO _ e)
  simp only[BC,BJ,List.flatten_cons,AD,AX];omega
section
variable {D:DM}{S0:Sp}{C0:Ct}{H:LI}{P:Pl}
theorem qcu (R:Int->Nd × Int)(l:Nat)(G:List Zx):((G.map Qn).flatMap λx=>Xa R l x.a)=G.flatMap λx=>Xa R l x.1:=by
 induction G with
 |nil=>rfl
 |cons y G ih=>rw[BJ,BC,BC,ih];rfl
theorem Keep.few (K:Keep D S0 C0 [] H P):∀(l:Nat) (y:Zx),good1 (P.hide D []) l y->(Xa (P.hide D []) l y.1).length+2<=y.2.length
 |0,y,h=>by
  have:=K.long 0 y h;show 1+2<=_;omega
 |l+1,y,h=>by
  obtain⟨M,f,B,_,_⟩:=K.Ey h.1;have A:=(q3k f).1 h.2.1;obtain⟨G,e,rfl,E⟩:=f;have u:Qs ((l+1:Nat):Int)=6:=AB (by omega);rw[u,AF] at A;have h2:=qay (λy F=>K.few l y F) G E;show (y.1::_).length+2<=_;rw[AX,e,qcu,<-B];omega
theorem Keep.Qaa (K:Keep D S0 C0 [] H P){l:Nat}{a:Int}{its:List Qb}(h:Qm (P.hide D []) l a its):(Xa (P.hide D []) l a).length<=its.length:=by
 obtain⟨M,u,B,A,F⟩:=K.Ey h
 cases l with
 |zero=>
  have:=h.2;show 1<=_;exact List.length_pos_iff.2 this
 |succ l=>
  obtain⟨G,e,rfl,E⟩:=u;have h2:=qay (λy I=>K.few l y I) G E;have f:=(q0o A.may (by rw[e];show ¬((l+1:Nat):Int)=0;omega)).2.2.2.1;rw[e] at f;have f:2<=(G.map Qn).length:=f;rw[AF] at f;show (a::_).length<=_;rw[AX,e,qcu,<-B];omega
def Ct.used (C:Ct):Nat:=(List.range C.n).countP λa=>decide (nm C.now a≠0)
def Ct.kept (C:Ct):Nat:=(List.range C.n).countP λa=>decide (nm C.done a≠0)
theorem qqn (C:Ct):C.n<=C.free+(C.first+(C.used+C.kept)):=by
 have h:=qkx (p:=λ_=>true) (a:=λj=>C.may j) (b:=λj=>decide (j<C.first)) (c:=λa=>decide (nm C.now a≠0)) (d:=λa=>decide (nm C.done a≠0)) (List.range C.n) λx B _=>by
  by_cases h1:x<C.first
  ·exact .inr (.inl (AL h1))
  ·by_cases h2:nm C.now x=0
   ·by_cases e:nm C.done x=0
    ·left
     unfold Ct.may Ct.Gw;simp[h2,e];omega
    ·exact .inr (.inr (.inr (AL e)))
   ·exact .inr (.inr (.inl (AL h2)))
 have u:(List.range C.n).countP (λ_=>true)=C.n:=by
  rw[List.countP_eq_length.2 λ_ _=>rfl,List.length_range]
 have A:(List.range C.n).countP (λj=>decide (j<C.first))<=C.first:=by
  generalize C.n=n;generalize C.first=f
  induction n with
  |zero=>simp
  |succ n ih=>
   rw[List.range_succ,List.countP_append];by_cases hn:n<f
   ·have:(List.range n).countP (λj=>decide (j<f))<=n:=by
     have:=List.countP_le_length (p:=λj=>decide (j<f)) (l:=List.range n);rw[List.length_range] at this;exact this
    simp[hn];omega
   ·simp[hn];omega
 have y:(List.range C.n).countP (λj=>C.may j)=C.free:=by unfold Ct.free Ct.Ju;rfl
 rw[u,y] at h;unfold Ct.used Ct.kept;omega
def Fa (R:Int->Nd × Int)(L:List (Nat × Int × List Qb)):Prop:=∀x∈L,Qm R x.1 x.2.1 x.2.2
theorem qaz {R:Int->Nd × Int}:∀{l:Nat} {r b:Int} {its:List Qb},Qm R l r its->b∈Xa R l r->∀x∈(R b).1.items,x∈its
 |0,r,b,its,h,f,x,hx=>by
  obtain rfl:b=r:=List.mem_singleton.1 f;rw[h.1] at hx;exact hx
 |l+1,r,b,its,h,f,x,hx=>by
  obtain⟨kids,parts,e,I,J,F,G⟩:=h;rcases List.mem_cons.1 f with rfl|f
  ·rw[e] at hx;cases hx
  ·obtain⟨k,A,f⟩:=List.mem_flatMap.1 f;rw[e] at A;obtain⟨j,u,E⟩:=List.getElem_of_mem A;have B:Qi kids j=k:=by
    have:=Oz u;rw[AC u,E] at this;exact (OI this).symm
   have y:=(G j u).1;rw[B] at y;have u:j<kids.length:=u;have h1:=qaz y f x hx;rw[F];rw[AG,AC (by omega)] at h1;exact List.mem_flatten.2 ⟨_,List.getElem_mem (by omega),h1⟩
theorem Keep.used (K:Keep D S0 C0 [] H P){L:List (Nat × Int × List Qb)}{X:LI}(hL:Fa (P.hide D []) L)(hH:∀a∈H,(∃x∈L,x.2.1=a)\/a∈X)(hX:∀a∈X,P.Qe D a≠0):P.C.used<=(L.map λx=>x.2.2.length).sum+((L.map λx=>(x.2.2.filterMap Kz).length).sum+X.length):=by
 have E:∀a:Nat,(a:Int)∈H->P.Qe D (a:Int)=0->∀x∈L,x.2.1=(a:Int)->(a:Int)∈L.flatMap λx=>Xa (P.hide D []) x.1 x.2.1:=λa _ _ x u e=>List.mem_flatMap.2 ⟨x,u,e▸qct _ _ _⟩
 have h1:∀a:Nat,a<P.C.n->P.Qe D (a:Int)=0->(a:Int)∈L.flatMap λx=>Xa (P.hide D []) x.1 x.2.1:=λa J I=>
  qbm K.Qa0 K.Vq K.c K.Zk.ok.res (S:=λa:Nat=>(a:Int)∈L.flatMap λx=>Xa (P.hide D []) x.1 x.2.1) (λb Z M T f=>by
   rcases hH _ T with⟨x,u,e⟩|h
   ·exact E b T f x u e
   ·exact absurd f (hX _ h)) (λb c Z M a3 hc f a1 ⟨y,F,e⟩=>by
   obtain⟨x,u,B⟩:=List.mem_flatMap.1 a1;refine List.mem_flatMap.2 ⟨x,u,?_⟩;rw[<-e];refine q8n (hL x u) B y ?_;rw[O0,Io f];exact F) a J I
 have h2:∀a:Nat,a<P.C.n->P.C.get (a:Int)≠0->(a:Int)∈(L.flatMap λx=>Xa (P.hide D []) x.1 x.2.1)++((L.flatMap λx=>x.2.2.filterMap Kz)++X):=λa J h0=>by
  by_cases I:P.Qe D (a:Int)=0
  ·exact List.mem_append_left _ (h1 a J I)
  ·refine AU _ ?_;obtain⟨a0,_⟩:=K.first h0
   rcases K.Qa0.by_ a0 J ((qi8 K.c).2 h0) with hm|⟨b,M,a2,hm⟩
   ·rcases hH _ hm with⟨x,u,e⟩|h
    ·have:=(q3s (hL x u)).2;rw[e] at this;exact absurd this I
    ·exact AU _ h
   ·have f:=q2s hm;refine List.mem_append_left _ ?_;obtain⟨x,u,B⟩:=List.mem_flatMap.1 (h1 b M f);rcases q7q K.Vq M hm with⟨_,_,_,_,k,_⟩|_
    ·exact absurd k I
    ·have Y:(a:Int)∈(P.Qd D (b:Int)).named:=hm;unfold Nd.named at Y;rcases List.mem_append.1 Y with h|h
     ·obtain⟨y,F,e⟩:=List.mem_map.1 h;obtain⟨c,A,_,_,_,G,_⟩:=K.Vq.kids b M (q58 f) f y F;rw[A] at e;rw[e] at G;exact absurd G I
     ·obtain⟨y,F,e⟩:=List.mem_filterMap.1 h;refine List.mem_flatMap.2 ⟨x,u,List.mem_filterMap.2 ⟨y,?_,e⟩⟩;refine qaz (hL x u) B y ?_;rw[O0,Io f];exact F
 have A:(((List.range P.C.n).filter λa=>decide (nm P.C.now a≠0)).map λa:Nat=>(a:Int)).length<=((L.flatMap λx=>Xa (P.hide D []) x.1 x.2.1)++((L.flatMap λx=>x.2.2.filterMap Kz)++X)).length:=by
  refine qgn ?_ λx u=>?_
  ·refine List.Pairwise.map _ (R:=λa b:Nat=>a≠b) (λa b h (e:(a:Int)=(b:Int))=>h (by omega)) ?_;exact List.nodup_range.filter _
  ·obtain⟨a,J,rfl⟩:=List.mem_map.1 u;obtain⟨A,G⟩:=List.mem_filter.1 J;have A:=List.mem_range.1 A;refine h2 a A λe=>AK G ?_
   unfold Ct.get at e;rw[AA (by omega),AJ] at e;exact e
 rw[AF,<-List.countP_eq_length_filter,AD,AD] at A;have G:∀(L:List (Nat × Int × List Qb)),Fa (P.hide D []) L->(L.flatMap λx=>Xa (P.hide D []) x.1 x.2.1).length<=(L.map λx=>x.2.2.length).sum:=by
  intro L;induction L with
  |nil=>intro _;simp
  |cons x t ih=>
   intro h;have i1:=K.Qaa (h x (AP ..));have i2:=ih λy F=>h y (AO _ F)
   rw[BC,AD,BJ,List.sum_cons];omega
 have h5:(L.flatMap λx=>x.2.2.filterMap Kz).length=(L.map λx=>(x.2.2.filterMap Kz).length).sum:=by
  generalize L=L;induction L with
  |nil=>rfl
  |cons x t ih=>rw[BC,AD,BJ,List.sum_cons,ih]
 have h6:=G L hL;have h7:P.C.used=(List.range P.C.n).countP λa=>decide (nm P.C.now a≠0):=rfl
 omega
end
def Pl.like (P P':Pl):Prop:=P'.S=P.S/\P'.C.done=P.C.done
theorem Pl.like.refl (P:Pl):P.like P:=⟨rfl,rfl⟩
theorem Pl.like.trans {P P' P'':Pl}(h:P.like P')(h2:P'.like P''):P.like P'':=⟨h2.1.trans h.1,h2.2.trans h.2⟩
theorem quf (P:Pl)(a:Int):P.like ⟨P.S,P.C.ref a,P.L⟩:=⟨rfl,by show (P.C.ref a).done=_;unfold Ct.ref;split<;>rfl⟩
theorem qcv (P:Pl)(a:Int):P.like ⟨P.S,P.C.Qp a,P.L⟩:=⟨rfl,by show (P.C.Qp a).done=_;unfold Ct.Qp;split<;>rfl⟩
theorem q99 (P:Pl)(N:Nd):P.like (P.Jg N):=by
 unfold Pl.Jg;split
 ·unfold Pl.lay;split
  ·exact⟨rfl,by show P.C.alloc.done=_;unfold Ct.alloc;split<;>rfl⟩
  ·exact .refl _
 ·exact .refl _
theorem qug (P:Pl)(a:Int)(N:Nd):P.like (P.Va a N):=by
 unfold Pl.Va;split
 ·exact⟨rfl,rfl⟩
 ·exact .refl _
theorem qcw:∀(l:LI) {P P':Pl},Vk l P=some P'->P.like P'
 |[],P,P',h=>by cases h;exact .refl _
 |a::l,P,P',h=>by
  unfold Vk at h;split at h
  ·exact (quf P a).trans (qcw l h)
  ·cases h
theorem q8o:∀(l:LI) {P P':Pl},Py l P=some P'->P.like P'
 |[],P,P',h=>by cases h;exact .refl _
 |a::l,P,P',h=>by
  unfold Py at h;split at h
  ·exact (qcv P a).trans (q8o l h)
  ·cases h
theorem q4r {P P':Pl}{s:Qr}{i j:Nat}(h:P.Qu s i j=some P'):P.like P':=by
 unfold Pl.Qu at h;split at h
 ·exact qcw _ h
 ·split at h
  ·cases h;exact .refl _
  ·exact q8o _ h
theorem qgo {P P':Pl}{D:DM}{s:Qr}{i:Nat}(h:P.near D s i=some P'):P.like P':=by
 unfold Pl.near at h;split at h
 ·exact q4r h
 ·cases h
theorem qqo {P P':Pl}{D:DM}{s t:Qr}{b:Nd}{x:Na}(h:P.have_ D s b t=some (x,P')):P.like P':=by
 unfold Pl.have_ at h;split at h
 ·cases h;exact .refl _
 ·split at h
  ·obtain⟨q,h1,h2⟩:=Option.map_eq_some_iff.1 h
   cases h2;exact qgo h1
  ·obtain⟨q,h1,h2⟩:=Option.map_eq_some_iff.1 h
   cases h2;exact qgo h1
theorem q7z {P P':Pl}{s:Qr}(h:P.leave s=some P'):P.like P':=by
 unfold Pl.leave at h;split at h
 ·cases h;exact .refl _
 ·split at h
  ·cases h;exact qcv P _
  ·cases h
theorem q70:∀(l:List Qr) {P P':Pl} {r r':List Nd} {ks f:List Qk},Uu l P r ks=some (P',r',f)->P.like P'
 |[],P,P',r,r',ks,f,h=>by unfold Uu at h;cases h;exact .refl _
 |s::l,P,P',[],r',ks,f,h=>by
  unfold Uu at h;split at h
  ·rename_i u e;exact (q7z e).trans (q70 l h)
  ·cases h
 |s::l,P,P',b::r,r',ks,f,h=>by
  unfold Uu at h;split at h
  ·split at h
   ·rename_i u e;exact (q7z e).trans (q70 l h)
   ·cases h
  ·split at h
   ·exact (qug P _ _).trans (q70 l h)
   ·cases h
theorem qky:∀(l:List Nd) {P P':Pl} {ks:List Qk} {q:Option (List Qk)},Jl l P ks=some (P',q)->P.like P'
 |[],P,P',ks,q,h=>by unfold Jl at h;cases h;exact .refl _
 |b::l,P,P',ks,q,h=>by
  unfold Jl at h;split at h
  ·exact (q99 P b).trans (qky l h)
  ·split at h
   ·cases h;exact q99 P b
   ·cases h
theorem q9a {P P':Pl}{x:Na}{q:Option (List Qk)}(h:P.Yn x=some (P',q)):P.like P':=by
 unfold Pl.Yn at h;split at h
 ·rename_i u f y e;exact (q70 _ e).trans (qky _ h)
 ·cases h
theorem quh {P P':Pl}{s:Qr}{b:Nd}{r:Option Int}(h:P.top s b=some (P',r)):P.like P':=by
 unfold Pl.top at h;split at h
 ·obtain⟨q,h1,h2⟩:=Option.map_eq_some_iff.1 h
  cases h2;exact q7z h1
 ·split at h
  ·rename_i f u e;have h0:=q9a e;split at h
   ·cases h;exact h0
   ·split at h
    ·cases h;exact h0
    ·split at h
     ·cases h;exact h0.trans (q99 f _)
     ·split at h
      ·cases h;exact h0.trans (q99 f _)
      ·cases h
  ·rename_i f e
   cases h;exact q9a e
  ·cases h
theorem qb0 {D:DM}:∀(way:List Qr) {P P':Pl} {s:Qr} {i j:Nat} {f:Nd} {r:Option Int},Yx D way P s i j f=some (P',r)->P.like P'
 |[],P,P',s,i,j,f,r,h=>by
  unfold Yx at h;split at h
  ·rename_i y e;exact (q4r e).trans (quh h)
  ·cases h
 |t::way,P,P',s,i,j,f,r,h=>by
  unfold Yx at h;split at h
  ·rename_i y e;split at h
   ·rename_i x E B;have h2:=(q4r e).trans (qqo B);split at h
    ·rename_i A F u;exact (h2.trans (q9a u)).trans (qb0 way h)
    ·rename_i A u
     cases h;exact h2.trans (q9a u)
    ·cases h
   ·cases h
  ·cases h
theorem qqp {P P':Pl}{D:DM}{root:Int}{x:Qb}{r:Option Int}(h:P.Ib D root x=some (P',r)):P.like P':=by
 unfold Pl.Ib at h;split at h
 ·exact qb0 _ h
 ·cases h
theorem qqq {P P':Pl}{D:DM}{root:Int}{k:Kd}{r:Option Int}(h:P.Fp D root k=some (P',r)):P.like P':=by
 unfold Pl.Fp at h;split at h
 ·exact qb0 _ h
 ·cases h
theorem qgp {P P':Pl}(h:P.like P')(hn:P'.C.n=P.C.n):P'.C.kept=P.C.kept:=by
 unfold Ct.kept;rw[h.2,hn]
theorem qgq (n:Nat):(Ct.zero n).kept=0:=by
 unfold Ct.kept;refine List.countP_eq_zero.2 λa e h=>AK h ?_
 show (List.replicate n (0:Int)).getD a 0=0;rw[AG,List.getElem?_replicate];split<;>rfl
structure Told (w:WD)(p:Nat)(R:Int->Nd × Int)(root:Int)(its:List Qb):Prop where
 src:Src w p R
 tree:Xk R root its
 Qh:Qh its
 len:its.length<=1000
theorem Told.below {w w':WD}{p:Nat}{R:Int->Nd × Int}{root:Int}{its:List Qb}(h:Told w p R root its)(hb:Below w.1.size w w'):Told w' p R root its:=⟨h.src.below hb,h.tree,h.Qh,h.len⟩
section
variable {w:WD}{p:Nat}{R:Int->Nd × Int}{root:Int}{its:List Qb}
theorem Told.Qaq (h:Told w p R root its)(ht:Tab w)(fr «to»:Kd)(most:Int)(L:List Qb)(hL:(within fr «to» its).take most.toNat=L) :
  Calls prog 29 #[.pointer (some ⟨p,0,none⟩),.int .i64 root,.agg #[.int .i64 fr.obj,.int .i64 fr.kind,.int .i64 fr.off],.agg #[.int .i64 «to».obj,.int .i64 «to».kind,.int .i64 «to».off],.int .i64 most] w λe w'=>∃A n c,e=.returned (.tuple #[.slice A n c,.int .i64 0])/\J6 w' w.1.size A n c L/\Below w.1.size w w':=by
 have:=qqi h.src ht root fr «to» most (λh0=>by have:=qmq (qqh R) h.tree h0;have:=h.len;omega);rw[qp6 h.tree h.Qh,hL] at this;exact this
end
def Gl (r:Int):LI:=if r=0 then [] else [r]
structure Ed (b:Nat)(w:WD)(d p:Nat)(U:NP)(D:DM)(P:Pl)(H:LI)(m:Nat)(g:Int):Prop where
 sys:∃S0 S T,Qg b w d p S0 S T D P/\(∀k,S0 k->U k)/\∀k,S k->U k
 low:∀k,U k->b<=k/\k<w.heap.size
 tab:Tab w
 keep:∃S0 C0,Keep D S0 C0 [] H P
 Y2:D.Y2 m
 gen:P.S.gen<=g
section
variable {b:Nat}{w w':WD}{d p:Nat}{U:NP}{D:DM}{P:Pl}{H H0:LI}{m:Nat}{g:Int}{root:Int}{its:List Qb}
theorem Ed.tidy (E:Ed b w d p U D P H m g):P.tidy:=by
 obtain⟨_,_,K⟩:=E.keep;exact⟨K.Zk.kind,K.laid⟩
theorem Ed.below (E:Ed b w d p U D P H m g)(hb:Below w.1.size w w'):Ed b w' d p U D P H m g:=by
 obtain⟨S0,S,T,h,h0,h1⟩:=E.sys;exact⟨⟨S0,S,T,h.below hb,h0,h1⟩,λk e=>⟨(E.low k e).1,by have:=(E.low k e).2;have:=hb.size;omega⟩,E.tab.below hb E.tab.1,E.keep,E.Y2,E.gen⟩
theorem Ed.src (E:Ed b w d p U D P H m g):Src w p (P.store D):=by
 obtain⟨S0,S,T,h,h0,h1⟩:=E.sys;obtain⟨_,_,K⟩:=E.keep;exact qyh h.Az h.pool K.Zk.kind K.Zk.good
structure Qbn (b:Nat)(w w':WD)(d p:Nat)(U:NP)(D:DM)(P P':Pl)(r:Int)(H0:LI)(its:List Qb)(m:Nat)(g:Int):Prop where
 ed:Ed b w' d p U D P' (Gl r++H0) m g
 tree:Xk (P'.store D) r its
 like:P.like P'
 n:P'.C.n=P.C.n
 free:P.C.free<=P'.C.free+17
 old:∀l a t,a∈H0->Qm (P.store D) l a t->Qm (P'.store D) l a t
 turn:Turn U w w'
theorem Ed.Qbz (E:Ed b w d p U D P (Gl root++H0) m g)(hb:1<b)(u:Xk (P.store D) root its)(hr:Qh its)(hf:∀x∈its,Zt x)(k:Kd)(hfew:its.length<1000)(hH0:H0.length<=10000)(hk:¬∃x∈its,x.k.same k=true) :
  Calls prog 109 #[.pointer (some ⟨p,0,none⟩),.int .i64 root,.agg #[.int .i64 k.obj,.int .i64 k.kind,.int .i64 k.off]] w λe w'=>e=.returned (.tuple #[.int .i64 0,.int .i64 10])/\Below w.1.size w w':=by
 obtain⟨G,I,J,A,h0,h1⟩:=E.sys;obtain⟨S0,C0,K⟩:=E.keep;replace u:=q98.2 u;by_cases f:root=0
 ·exact qq1 A hb E.tab E.tidy root k (AA f:P.way D root k=some ([],q44)) rfl
 ·obtain⟨up,s,B,M,F,T⟩:=qkr K u hr hf f k hfew hH0;refine qq1 A hb E.tab E.tidy root k B ?_
  cases y:Ud s.N.keys k (s.N.Zn k) with
  |false=>rfl
  |true=>exact absurd (F.1 y) hk
theorem Ed.F7 (E:Ed b w d p U D P H m g)(n:Nat)(hn:P.C.free=n):Calls prog 12 #[.pointer (some ⟨p,0,none⟩)] w λe w'=>e=.returned (.int .i64 (n:Int))/\w=w':=by
 obtain⟨u,y,A,f,h0,h1⟩:=E.sys;exact qow f.pool n hn
end
def Fb (b:Nat)(w:WD)(d p:Nat)(U Q V:NP)(D:DM)(P:Pl):Prop:=
 ∃S0 S T,Qg b w d p S0 S T D P/\(∀k,S0 k->U k)/\(∀k,S k->U k)/\(∀k,Q k->T k)/\∀k,S k->V k
section
variable {b:Nat}{w w':WD}{d p:Nat}{U Q V:NP}{D:DM}{P:Pl}{H H0:LI}{m:Nat}{g:Int}{root:Int}{its:List Qb}
theorem Fb.below (h:Fb b w d p U Q V D P)(hb:Below w.1.size w w'):Fb b w' d p U Q V D P:=by
 obtain⟨S0,S,T,h1,h2,e,f,u⟩:=h;exact⟨S0,S,T,h1.below hb,h2,e,f,u⟩
theorem Ed.Qc2 (E:Ed b w d p U D P H m g):Fb b w d p U (λ_=>False) U D P:=by
 obtain⟨S0,S,T,h,h0,h1⟩:=E.sys;exact⟨S0,S,T,h,h0,h1,λ_ h=>h.elim,h1⟩
end
section
variable {D:DM}{S0:Sp}{C0:Ct}{O H:LI}{P:Pl}
theorem Gz {v:LU}(e:v.length<=128):Pl.Gz 5 v.length=true:=by
 unfold Pl.Gz Yf;rw[AA rfl];exact AL e
theorem Qcc {v:LU}(e:v.length<=128):P.put 5 v=P.lay (.bytes 5 v)/\P.Dn 5 v.length=P.C.Kv/\P.Zr 5 v.length=P.C.Ku:=by
 unfold Pl.put Pl.Dn Pl.Zr;rw[Gz e];exact⟨rfl,rfl,rfl⟩
theorem qmx (K:Keep D S0 C0 O H P){c:Nat}(T:P.C.pick=some c){v:LU}(hv:v.length<=128) :
  P.Zr 5 v.length=0/\P.Dn 5 v.length=(c:Int)/\Keep D S0 C0 O ((c:Int)::H) (P.put 5 v)/\(P.put 5 v).tell D (c:Int)=(Jc,0)/\Ext (P.hide D O) ((P.put 5 v).hide D O)/\P.C.free=(P.put 5 v).C.free+1/\(P.put 5 v).C.n=P.C.n/\P.like (P.put 5 v)/\1<=c/\c<2048/\
   (∀x,x≠(c:Int)->(P.put 5 v).store D x=P.store D x/\(P.put 5 v).C.get x=P.C.get x)/\P.C.get (c:Int)=0:=by
 obtain⟨p1,p2,p3,p4,_⟩:=Ct.Jv T;obtain⟨a1,a2,a3⟩:=Ct.Jf T;obtain⟨A,v1,v2⟩:=Qcc (P:=P) hv;have hz:P.C.get (c:Int)=0:=by
  unfold Ct.get;rw[AA (by omega),AJ];exact p3
 have a9:P.C.first=2+2*Qj P.C.n:=rfl
 have J:(c:Int)∉O:=λh=>by
  have:=(K.opened _ h).2;omega
 have E:=λb (f:b<P.C.n)=>q7m T (.bytes 5 v) b f
 have I:=qbl T (.bytes 5 v);have a0:(Bk.bytes 5 v).good:=qc5 (.inl rfl) (by omega);have hn:(P.put 5 v).C.n=P.C.n:=by rw[A];exact qi1 _
 have hE:(P.put 5 v).Qe D (c:Int)≠0:=by
  have h0:(P.put 5 v).C.get (c:Int)≠0:=by rw[A,E c p1,AA rfl];decide
  have hl:(P.put 5 v).live c=some (.bytes 5 v):=by
   unfold Pl.live;rw[AB h0,A,I c,AA rfl]
  rw[q57 D h0 hl];show (1:Int)≠0;decide
 have Z:(P.put 5 v).C.get (c:Int)=1:=by rw[A,E c p1,AA rfl]
 have G:(P.put 5 v).tell D (c:Int)=(Jc,0):=qbd (by rw[Z];decide) hE;have y:∀x,x≠(c:Int)->(P.put 5 v).C.get x=P.C.get x:=λx u=>by
  by_cases f:0<=x/\x<(P.C.n:Int)
  ·obtain⟨n,rfl⟩:∃n:Nat,x=(n:Int):=⟨x.toNat,by omega⟩;have E:=E n (by omega);rw[AB (by omega)] at E;rw[A];exact E
  ·unfold Ct.get;rw[hn,AB f,AB f]
 have a4:∀x,x≠(c:Int)->(P.put 5 v).store D x=P.store D x:=λx u=>by
  by_cases f:0<=x/\x<(P.C.n:Int)
  ·obtain⟨n,rfl⟩:∃n:Nat,x=(n:Int):=⟨x.toNat,by omega⟩;have E:=E n (by omega);have I:=I n;rw[AB (by omega)] at E I;rw[A];unfold Pl.store Pl.Qd Pl.Qe Pl.live;rw[AJ,E,I]
  ·have h1:P.C.get x=0:=by unfold Ct.get;rw[AB f]
   rw[Ox h1,Ox (by rw[y x u];exact h1)]
 have hh:∀x,x≠(c:Int)->(P.put 5 v).hide D O x=P.hide D O x:=λx u=>by
  unfold Pl.hide;rw[q3r (a4 x u) (by rw[y x u])]
 have B:(P.put 5 v).hide D O (c:Int)=(Jc,0):=by rw[O6 J];exact G
 have a5:Ext (P.hide D O) ((P.put 5 v).hide D O):=λx u=>hh x λe=>by
  rw[e,O6 J,q2z hz] at u
  cases u
 have a8:=K.c.1.2;have hC:(P.put 5 v).C=P.C.alloc:=by rw[A,q2j T]
 have b0:=Ct.U5 T;refine⟨by rw[v2];exact a1,by rw[v1];exact a2,⟨⟨by rw[A];exact qjo K.Zk.ok a0.fine,by rw[A];exact qfk K.Zk.sound _,λa b f=>?_⟩,λa F=>?_,?_,λx u=>?_,λa F Y a7=>?_⟩,G,a5,by rw[hC];omega,hn,?_,by omega,by omega,λx u=>⟨a4 x u,y x u⟩,hz⟩
 ·rw[A,I a] at f;split at f
  ·injection f with f;subst f;exact⟨⟨128,rfl,hv⟩,a0⟩
  ·exact K.Zk.kinds a b f
 ·rw[A,I a];by_cases e:a=c
  ·exact⟨_,AA e⟩
  ·rw[AB e];refine K.laid a ?_;rw[hC] at F;rw[(Ct.Jf T).2.2] at F;have a6:a<P.C.n:=by
    obtain⟨n,e1,h2⟩:=Uf (q2r F);rw[P.C.Zf] at h2;omega
   unfold Ct.fresh at F ⊢;rw[Px P.C a a6,AB e] at F;exact F
 ·rw[hn];refine K.Gj.put (c:=c) (ks:=[]) (H0:=H) (cnt':=(P.put 5 v).cnt) (by omega) p1 (by unfold Pl.cnt;rw[hz];rfl) (λa _ _=>by simp) ?_ ?_ ?_ ?_
  ·unfold Pl.cnt;rw[Z];rfl
  ·intro b f M;unfold Pl.cnt;rw[y _ (by omega)]
  ·show ((P.put 5 v).hide D O (c:Int)).1.named=_;rw[B];rfl
  ·intro b f M;show ((P.put 5 v).hide D O (b:Int)).1.named=_;rw[hh _ (by omega)]
 ·obtain⟨k1,k2⟩:=K.opened x u;have M:x≠(c:Int):=λe=>J (e▸u)
  exact⟨AO _ k1,by rw[y x M];exact k2⟩
 ·rw[hn] at F;by_cases e:a=c
  ·subst e;exact .inl B
  ·rw[y _ (by omega)] at Y;exact (K.loc a F Y a7).ext a5
 ·refine⟨by rw[A];exact qt1 _,?_⟩;rw[hC];unfold Ct.alloc;split<;>rfl
end
section
variable {D:DM}{S0:Sp}{C0:Ct}{O H:LI}{P P' P'':Pl}
structure Only (D:DM)(P P':Pl):Prop where
 get:∀a,P'.C.get a≠0->P.C.get a≠0
 store:∀a,P'.C.get a≠0->P'.store D a=P.store D a
 like:P.like P'
 n:P'.C.n=P.C.n
theorem Only.trans (h:Only D P P')(h2:Only D P' P''):Only D P P'':=
 ⟨λa e=>h.get a (h2.get a e),λa e=>(h2.store a e).trans (h.store a (h2.get a e)),h.like.trans h2.like,h2.n.trans h.n⟩
end
section
variable {b:Nat}{w w':WD}{d p:Nat}{U:NP}{D:DM}{P:Pl}{H H0 X:LI}{m:Nat}{g:Int}{root:Int}{its:List Qb}
theorem Ed.Qbh (E:Ed b w d p U D P (Gl root++(X++H0)) m g)(hX:∀a∈X,P.Qe D a≠0)(hT:Xk (P.store D) root its){L:List (Nat × Int × List Qb)}(hL:Fa (P.store D) L)(hH:∀a∈H0,∃x∈L,x.2.1=a) :
  P.C.n<=P.C.free+(P.C.first+P.C.kept+(2*(its.length+(L.map λx=>x.2.2.length).sum)+X.length)):=by
 obtain⟨S0,C0,K⟩:=E.keep;have h2:=qqn P.C;have y:∀M:List (Nat × Int × List Qb),(M.map λx=>(x.2.2.filterMap Kz).length).sum<=(M.map λx=>x.2.2.length).sum:=λM=>by
  induction M with
  |nil=>exact AE _
  |cons x r ih=>
   have:=List.length_filterMap_le Kz x.2.2;simp only[BJ,List.sum_cons];omega
 have f:∀{M:List (Nat × Int × List Qb)},Fa (P.store D) M->Fa (P.hide D []) M:=λh x u=>q2c.2 (h x u)
 rcases hT with⟨rfl,rfl⟩|⟨l,h0,B,_⟩
 ·have h1:=K.used (L:=L) (X:=X) (f hL) λa A=>by
   rcases List.mem_append.1 (show a∈X++H0 from A) with h|h
   ·exact .inr h
   ·exact .inl (hH a h)
  have h1:=h1 hX;have:=y L;simp only[List.length_nil];omega
 ·have e:Gl root=[root]:=AB (by omega);rw[e] at K;have h1:=K.used (L:=(l,root,its)::L) (X:=X) (f λx u=>by
   rcases List.mem_cons.1 u with rfl|u
   ·exact B
   ·exact hL x u) λa A=>by
   rcases List.mem_cons.1 (show a∈root::(X++H0) from A) with rfl|h
   ·exact .inl ⟨_,AP ..,rfl⟩
   rcases List.mem_append.1 h with h|h
   ·exact .inr h
   ·obtain⟨x,u,e⟩:=hH a h;exact .inl ⟨x,AO _ u,e⟩
  have h1:=h1 hX;have:=y ((l,root,its)::L);simp only[BJ,List.sum_cons] at h1 this;omega
end
section
open Go.ChangeShapes Go.WideShapes Go.ChangeAt Go.Deep
structure Qbs where
 z:Int
 k:Kd
 V:OA
 q:Nat
 c:Nat
 v:LU
structure Qbs.here (o:Qbs)(W:WD):Prop where
 z:i64 o.z
 off:i64 o.k.off
 sl:Sl W o.V o.q o.c o.v
 few:o.q<=140737488355328
section
variable {H:Type}{enc:TypeId × Value->H}{W:WD}
end
end
theorem qui {x:Qb}(h:Kz x=none):Pm x=[]:=by unfold Pm;rw[h];rfl
section
variable {b:Nat}{w w' w'':WD}{d p:Nat}{U:NP}{D:DM}{P P' P'':Pl}{H H0:LI}{m:Nat}{g:Int}{root r r':Int}{its row row':List Qb}
end
theorem qeh (n:Nat):(Pl.fresh n).C.n=n:=Ct.Zb n
