/- The nodes that some roots lead «to», found one by one -/
import Derived.Test.YtnnbaihfboacoaaGreatDoorEr39
import Derived.Test.YtnnbaihfboacoaaGreatDoorEr42
import Derived.Test.YtnnbaihfboacoaaGreatDoorEr43
namespace Go.Proofs.YtnnbaihfboacoaaGreatDoor
open Go Go.RowKit Go.Proofs
structure Qcl (R:Int->Nd × Int)(roots:List Int)(Ns:List (Int × Nd))(seen:Nat->Bool)(todo:List Int):Prop where
 got:∀x∈Ns,R x.1=(x.2,0)/\∃c:Nat,x.1=(c:Int)/\seen c=true
 all:∀c:Nat,seen c=true->(R (c:Int)).2=0->((c:Int),(R (c:Int)).1)∈Ns
 one:Ns.Pairwise λx y=>x.1≠y.1
 root:∀a:Nat,0<a->a<2048->(a:Int)∈roots->seen a=true\/(a:Int)∈todo
 kid:∀x∈Ns,∀y∈x.2.kids,∀a:Nat,y.a=(a:Int)->0<a->a<2048->seen a=true\/(a:Int)∈todo
section
variable {R:Int->Nd × Int}{roots:List Int}{Ns:List (Int × Nd)}{seen:Nat->Bool}{r:List Int}{x:Int}
end
theorem qu0 (n:Nat)(a:Int):(Ct.zero n).get a=0:=by
 unfold Ct.get Ct.zero nm;split
 ·show (List.replicate n (0:Int)).getD a.toNat 0=0;rw[List.getD_eq_getElem?_getD,List.getElem?_replicate];split<;>rfl
 ·rfl
theorem Nh (P:Pl)(D:DM):P.hide D []=P.store D:=by
 funext a
 exact if_neg (by simp)
theorem qml {n:Nat}(h1:32<=n)(h2:n<=2048):Keep ((DM.mk0 n).Qk (Xt n)) (fmtS n) (Ct.zero n) [] [] (Pl.fresh n):=by
 obtain⟨_,h,_⟩:=qdl (D:=DM.mk0 n) h1 h2 rfl ⟨rfl,rfl⟩;have e:∀a:Int,(Pl.fresh n).C.get a=0:=qu0 n;refine⟨⟨qje h1 h2,h,λa b y=>(by cases y)⟩,λa u=>absurd (e a) (q31 u),⟨λa _ _=>?_⟩,λx A=>(by cases A),λa _ h0=>absurd (e a) h0⟩;have f:∀b,(Pl.fresh n).cnt b=0:=λb=>by unfold Pl.cnt;rw[e];rfl
 rw[f];have:refs (λb=>((Pl.fresh n).hide ((DM.mk0 n).Qk (Xt n)) [] (b:Int)).1.named) (Pl.fresh n).C.n (Pl.fresh n).cnt a=0:=qc4 λb _=>by rw[f];rfl
 rw[this];rfl
section
variable {D:DM}{S0:Sp}{C0:Ct}{H:List Int}{P:Pl}
theorem Keep.ok0 (K:Keep D S0 C0 [] H P){a:Nat}(h0:P.C.get (a:Int)≠0):(P.store D (a:Int)).2=0:=by
 have:=(K.told h0 (by simp)).err;rwa [Nh] at this
theorem qii (K:Keep D S0 C0 [] H P)(J:P.g<1099511627775):Keep (D.Qk P.steps) P.sup P.C [] H P.done/\∀a,(P.store D a).2=0->P.done.store (D.Qk P.steps) a=P.store D a:=by
 have f:=K.Zt.ok;have B:=K.Zt.sound;have y:=q8j f B K.Zt.good;obtain⟨_,_,E,_⟩:=qrw f B;have M:P.Uc D H:=Jo.same K.Uc (λ_ _=>rfl) λb _ _=>by rw[Nh];rfl
 have A:=qhy M f B K.Zt.good λa _ h0=>K.ok0 h0
 refine⟨⟨⟨qp6 f J,E,λa b G=>(by cases G)⟩,λa u=>?_,Jo.same A (λ_ _=>rfl) (λb _ _=>by rw[Nh];rfl),λx F=>(by cases F),λa u h0 _=>?_⟩,y⟩
 ·exfalso
  have h0:=q31 (C:=P.C.commit) u;have u:P.C.commit.fresh (a:Int)=true:=u;unfold Ct.fresh at u;rw[if_neg h0] at u;have e:P.C.commit.get (a:Int)=nm P.C.commit.done a:=by
   unfold Ct.get at h0 ⊢;split
   ·rw[Int.toNat_natCast];rfl
   ·rename_i I;rw[if_neg I] at h0;exact absurd rfl h0
  rw[e] at h0;simp[h0] at u
 ·have h0:P.C.get (a:Int)≠0:=h0;have L:=K.told h0 (by simp);rw[Nh] at L ⊢;exact L.ext λx F=>y x F
theorem Keep.Ui (K:Keep D S0 C0 [] H P):P.Ui D:=by
 have L:=λ{a:Nat} (h0:P.C.get (a:Int)≠0)=>by
  have:=K.told h0 (by simp:(a:Int)∉([]:List Int));rw[Nh] at this;exact this
 refine⟨λa _ h0=>(L h0).err,λa _ h0=>(L h0).may,λa _ h0=>(L h0).bare,λa _ h0 x B=>?_⟩;obtain⟨E,u,y,_⟩:=(L h0).kids x B;obtain⟨c,e,A,f⟩:=q4q E;obtain⟨c0,_⟩:=K.first f
 rw[e] at u y;exact⟨c,e,c0,A,f,u,y⟩
theorem Keep.Qcd (K:Keep D S0 C0 [] H P):P.Uc D H:=Jo.same K.Uc (λ_ _=>rfl) λb _ _=>by rw[Nh];rfl
end
theorem qgo {α:Type}:∀{l l':List α},l.Nodup->(∀x∈l,x∈l')->l.length<=l'.length
 |[],_,_,_=>Nat.zero_le _
 |x::t,l',hn,hs=>by
  obtain⟨h1,h2⟩:=List.nodup_cons.1 hn;obtain⟨s,u,rfl⟩:=List.append_of_mem (hs x (List.mem_cons_self ..));have:=qgo (l':=s++u) h2 λy e=>by
   have f:=hs y (List.mem_cons_of_mem _ e);rcases List.mem_append.1 f with h|h
   ·exact List.mem_append_left _ h
   ·rcases List.mem_cons.1 h with h|h
    ·exact absurd (h▸e) h1
    ·exact List.mem_append_right _ h
  rw[List.length_append,List.length_cons] at *;simp only[List.length_cons];omega
theorem qkm {α:Type}{p a b c d:α->Bool}:∀(l:List α),(∀x∈l,p x=true->a x=true\/b x=true\/c x=true\/d x=true)->l.countP p<=l.countP a+(l.countP b+(l.countP c+l.countP d))
 |[],_=>by simp
 |x::t,h=>by
  have A:=qkm t λy u=>h y (List.mem_cons_of_mem _ u)
  have f:=h x (List.mem_cons_self ..);simp only[List.countP_cons];by_cases e:p x=true
  ·rcases f e with h|h|h|h<;>rw[if_pos h,if_pos e]<;>split<;>omega
  ·rw[if_neg e];omega
def Yk (R:Int->Nd × Int):Nat->Int->List Int
 |0,a=>[a]
 |l+1,a=>a::(R a).1.kids.flatMap λx=>Yk R l x.a
theorem qcw (R:Int->Nd × Int):∀(l:Nat) (a:Int),a∈Yk R l a
 |0,_a=>List.mem_cons_self ..
 |_l+1,_a=>List.mem_cons_self ..
theorem q8q {R:Int->Nd × Int}:∀{l:Nat} {r b:Int} {its:List Qc},Qp R l r its->b∈Yk R l r->∀x∈(R b).1.kids,x.a∈Yk R l r
 |0,r,b,its,h,f,x,hx=>by
  obtain rfl:b=r:=List.mem_singleton.1 f;rw[h.1] at hx
  cases hx
 |l+1,r,b,its,h,f,x,hx=>by
  rcases List.mem_cons.1 f with rfl|f
  ·exact List.mem_cons_of_mem _ (List.mem_flatMap.2 ⟨x,hx,qcw R l x.a⟩)
  ·obtain⟨k,y,f⟩:=List.mem_flatMap.1 f;obtain⟨kids,parts,e,G,I,J,F⟩:=h;rw[e] at y;obtain⟨j,u,E⟩:=List.getElem_of_mem y;have B:Qg kids j=k:=by
    have:=Rf u;rw[List.getElem?_eq_getElem u,E] at this;exact (Option.some.inj this).symm
   have A:=(F j u).1;rw[B] at A;have:=q8q A f x hx;refine List.mem_cons_of_mem _ (List.mem_flatMap.2 ⟨k,?_,this⟩);rw[e];exact y
theorem qat {R:Int->Nd × Int}{l:Nat}(h:∀y:Zw,good1 R l y->(Yk R l y.1).length+2<=y.2.length):∀(G:List Zw),(∀x∈G,good1 R l x)->(G.flatMap λx=>Yk R l x.1).length+2*G.length<=(G.map (·.2)).flatten.length
 |[],_=>by simp
 |y::G,hg=>by
  have h1:=h y (hg y (List.mem_cons_self ..));have h2:=qat h G λx e=>hg x (List.mem_cons_of_mem _ e)
  simp only[List.flatMap_cons,List.map_cons,List.flatten_cons,List.length_append,List.length_cons];omega
section
variable {D:DM}{S0:Sp}{C0:Ct}{H:List Int}{P:Pl}
theorem qcx (R:Int->Nd × Int)(l:Nat)(G:List Zw):((G.map Qn).flatMap λx=>Yk R l x.a)=G.flatMap λx=>Yk R l x.1:=by
 induction G with
 |nil=>rfl
 |cons y G ih=>rw[List.map_cons,List.flatMap_cons,List.flatMap_cons,ih];rfl
theorem Keep.few (K:Keep D S0 C0 [] H P):∀(l:Nat) (y:Zw),good1 (P.hide D []) l y->(Yk (P.hide D []) l y.1).length+2<=y.2.length
 |0,y,h=>by
  have:=K.long 0 y h;show 1+2<=_;omega
 |l+1,y,h=>by
  obtain⟨M,f,B,_,_⟩:=K.Fp h.1;have A:=(q3n f).1 h.2.1;obtain⟨G,e,rfl,E⟩:=f;have u:Qr ((l+1:Nat):Int)=6:=if_neg (by omega);rw[u,List.length_map] at A;have h2:=qat (λy F=>K.few l y F) G E;show (y.1::_).length+2<=_;rw[List.length_cons,e,qcx,<-B];omega
theorem Keep.Qae (K:Keep D S0 C0 [] H P){l:Nat}{a:Int}{its:List Qc}(h:Qp (P.hide D []) l a its):(Yk (P.hide D []) l a).length<=its.length:=by
 obtain⟨M,u,B,A,F⟩:=K.Fp h
 cases l with
 |zero=>
  have:=h.2;show 1<=_;exact List.length_pos_iff.2 this
 |succ l=>
  obtain⟨G,e,rfl,E⟩:=u;have h2:=qat (λy I=>K.few l y I) G E;have f:=(Py A.may (by rw[e];show ¬((l+1:Nat):Int)=0;omega)).2.2.2.1;rw[e] at f;have f:2<=(G.map Qn).length:=f;rw[List.length_map] at f;show (a::_).length<=_;rw[List.length_cons,e,qcx,<-B];omega
def Ct.used (C:Ct):Nat:=(List.range C.n).countP λa=>decide (nm C.now a≠0)
def Ct.kept (C:Ct):Nat:=(List.range C.n).countP λa=>decide (nm C.done a≠0)
theorem qau (C:Ct):C.n<=C.free+(C.first+(C.used+C.kept)):=by
 have h:=qkm (p:=λ_=>true) (a:=λj=>C.may j) (b:=λj=>decide (j<C.first)) (c:=λa=>decide (nm C.now a≠0)) (d:=λa=>decide (nm C.done a≠0)) (List.range C.n) λx B _=>by
  by_cases h1:x<C.first
  ·exact .inr (.inl (decide_eq_true h1))
  ·by_cases h2:nm C.now x=0
   ·by_cases e:nm C.done x=0
    ·left
     unfold Ct.may Ct.U3;simp[h2,e];omega
    ·exact .inr (.inr (.inr (decide_eq_true e)))
   ·exact .inr (.inr (.inl (decide_eq_true h2)))
 have u:(List.range C.n).countP (λ_=>true)=C.n:=by
  rw[List.countP_eq_length.2 λ_ _=>rfl,List.length_range]
 have A:(List.range C.n).countP (λj=>decide (j<C.first))<=C.first:=by
  generalize C.n=n;generalize C.first=f
  induction n with
  |zero=>simp
  |succ n ih=>
   rw[List.range_succ,List.countP_append];by_cases hn:n<f
   ·have:(List.range n).countP (λj=>decide (j<f))<=n:=by
     have:=List.countP_le_length (p:=λj=>decide (j<f)) (l:=List.range n);rw[List.length_range] at this;exact this
    simp[hn];omega
   ·simp[hn];omega
 have y:(List.range C.n).countP (λj=>C.may j)=C.free:=by unfold Ct.free Ct.Jw;rfl
 rw[u,y] at h;unfold Ct.used Ct.kept;omega
def Nw (R:Int->Nd × Int)(L:List (Nat × Int × List Qc)):Prop:=∀x∈L,Qp R x.1 x.2.1 x.2.2
theorem Keep.used (K:Keep D S0 C0 [] H P){L:List (Nat × Int × List Qc)}(hL:Nw (P.hide D []) L)(hH:∀a∈H,∃x∈L,x.2.1=a):P.C.used<=(L.map λx=>x.2.2.length).sum:=by
 have h1:∀a:Nat,a<P.C.n->P.C.get (a:Int)≠0->(a:Int)∈L.flatMap λx=>Yk (P.hide D []) x.1 x.2.1:=λa A h0=>
  qbp K.Qcd K.Ui K.c K.Zt.ok.res (S:=λa:Nat=>(a:Int)∈L.flatMap λx=>Yk (P.hide D []) x.1 x.2.1) (λb B M E=>by
   obtain⟨x,f,e⟩:=hH _ E;exact List.mem_flatMap.2 ⟨x,f,e▸qcw _ _ _⟩) (λb c B M Q T O F ⟨y,I,e⟩=>by
   obtain⟨x,f,G⟩:=List.mem_flatMap.1 F;refine List.mem_flatMap.2 ⟨x,f,?_⟩;rw[<-e];refine q8q (hL x f) G y ?_;rw[Nh];exact I) a A h0
 have h2:(((List.range P.C.n).filter λa=>decide (nm P.C.now a≠0)).map λa:Nat=>(a:Int)).length<=(L.flatMap λx=>Yk (P.hide D []) x.1 x.2.1).length:=by
  refine qgo ?_ λx f=>?_
  ·refine List.Pairwise.map _ (R:=λa b:Nat=>a≠b) (λa b h (e:(a:Int)=(b:Int))=>h (by omega)) ?_;exact List.nodup_range.filter _
  ·obtain⟨a,A,rfl⟩:=List.mem_map.1 f;obtain⟨u,J⟩:=List.mem_filter.1 A;have u:=List.mem_range.1 u;refine h1 a u λe=>of_decide_eq_true J ?_
   unfold Ct.get at e;rw[if_pos (by omega),Int.toNat_natCast] at e;exact e
 rw[List.length_map,<-List.countP_eq_length_filter] at h2;have u:∀(L:List (Nat × Int × List Qc)),Nw (P.hide D []) L->(L.flatMap λx=>Yk (P.hide D []) x.1 x.2.1).length<=(L.map λx=>x.2.2.length).sum:=by
  intro L;induction L with
  |nil=>intro _;simp
  |cons x t ih=>
   intro h;have W:=K.Qae (h x (List.mem_cons_self ..));have X:=ih λy I=>h y (List.mem_cons_of_mem _ I)
   rw[List.flatMap_cons,List.length_append,List.map_cons,List.sum_cons];omega
 exact Nat.le_trans h2 (u L hL)
end
def Pl.like (P P':Pl):Prop:=P'.S=P.S/\P'.C.done=P.C.done
theorem Pl.like.refl (P:Pl):P.like P:=⟨rfl,rfl⟩
theorem Pl.like.trans {P P' P'':Pl}(h:P.like P')(h2:P'.like P''):P.like P'':=⟨h2.1.trans h.1,h2.2.trans h.2⟩
theorem qu1 (P:Pl)(a:Int):P.like ⟨P.S,P.C.ref a,P.L⟩:=⟨rfl,by show (P.C.ref a).done=_;unfold Ct.ref;split<;>rfl⟩
theorem qcy (P:Pl)(a:Int):P.like ⟨P.S,P.C.Qy a,P.L⟩:=⟨rfl,by show (P.C.Qy a).done=_;unfold Ct.Qy;split<;>rfl⟩
theorem q98 (P:Pl)(N:Nd):P.like (P.Zn N):=by
 unfold Pl.Zn;split
 ·unfold Pl.lay;split
  ·exact⟨rfl,by show P.C.alloc.done=_;unfold Ct.alloc;split<;>rfl⟩
  ·exact .refl _
 ·exact .refl _
theorem qu2 (P:Pl)(a:Int)(N:Nd):P.like (P.Vq a N):=by
 unfold Pl.Vq;split
 ·exact⟨rfl,rfl⟩
 ·exact .refl _
theorem qcz:∀(l:List Int) {P P':Pl},Um l P=some P'->P.like P'
 |[],P,P',h=>by cases h;exact .refl _
 |a::l,P,P',h=>by
  unfold Um at h;split at h
  ·exact (qu1 P a).trans (qcz l h)
  ·cases h
theorem q8r:∀(l:List Int) {P P':Pl},q3g l P=some P'->P.like P'
 |[],P,P',h=>by cases h;exact .refl _
 |a::l,P,P',h=>by
  unfold q3g at h;split at h
  ·exact (qcy P a).trans (q8r l h)
  ·cases h
theorem q4y {P P':Pl}{s:Qu}{i j:Nat}(h:P.Qx s i j=some P'):P.like P':=by
 unfold Pl.Qx at h;split at h
 ·exact qcz _ h
 ·split at h
  ·cases h;exact .refl _
  ·exact q8r _ h
theorem qgp {P P':Pl}{D:DM}{s:Qu}{i:Nat}(h:P.near D s i=some P'):P.like P':=by
 unfold Pl.near at h;split at h
 ·exact q4y h
 ·cases h
theorem qqc {P P':Pl}{D:DM}{s t:Qu}{b:Nd}{x:Px}(h:P.have_ D s b t=some (x,P')):P.like P':=by
 unfold Pl.have_ at h;split at h
 ·cases h;exact .refl _
 ·split at h
  ·obtain⟨q,h1,h2⟩:=Option.map_eq_some_iff.1 h
   cases h2;exact qgp h1
  ·obtain⟨q,h1,h2⟩:=Option.map_eq_some_iff.1 h
   cases h2;exact qgp h1
theorem q82 {P P':Pl}{s:Qu}(h:P.leave s=some P'):P.like P':=by
 unfold Pl.leave at h;split at h
 ·cases h;exact .refl _
 ·split at h
  ·cases h;exact qcy P _
  ·cases h
theorem q6y:∀(l:List Qu) {P P':Pl} {r u:List Nd} {ks f:List Ql},Gu l P r ks=some (P',u,f)->P.like P'
 |[],P,P',r,u,ks,f,h=>by unfold Gu at h;cases h;exact .refl _
 |s::l,P,P',[],u,ks,f,h=>by
  unfold Gu at h;split at h
  ·rename_i y e;exact (q82 e).trans (q6y l h)
  ·cases h
 |s::l,P,P',b::r,u,ks,f,h=>by
  unfold Gu at h;split at h
  ·split at h
   ·rename_i y e;exact (q82 e).trans (q6y l h)
   ·cases h
  ·split at h
   ·exact (qu2 P _ _).trans (q6y l h)
   ·cases h
theorem qkn:∀(l:List Nd) {P P':Pl} {ks:List Ql} {q:Option (List Ql)},Xe l P ks=some (P',q)->P.like P'
 |[],P,P',ks,q,h=>by unfold Xe at h;cases h;exact .refl _
 |b::l,P,P',ks,q,h=>by
  unfold Xe at h;split at h
  ·exact (q98 P b).trans (qkn l h)
  ·split at h
   ·cases h;exact q98 P b
   ·cases h
theorem q99 {P P':Pl}{x:Px}{q:Option (List Ql)}(h:P.Y7 x=some (P',q)):P.like P':=by
 unfold Pl.Y7 at h;split at h
 ·rename_i u f y e;exact (q6y _ e).trans (qkn _ h)
 ·cases h
theorem qu3 {P P':Pl}{s:Qu}{b:Nd}{r:Option Int}(h:P.top s b=some (P',r)):P.like P':=by
 unfold Pl.top at h;split at h
 ·obtain⟨q,h1,h2⟩:=Option.map_eq_some_iff.1 h
  cases h2;exact q82 h1
 ·split at h
  ·rename_i f u e;have h0:=q99 e;split at h
   ·cases h;exact h0
   ·split at h
    ·cases h;exact h0
    ·split at h
     ·cases h;exact h0.trans (q98 f _)
     ·split at h
      ·cases h;exact h0.trans (q98 f _)
      ·cases h
  ·rename_i f e
   cases h;exact q99 e
  ·cases h
theorem qav {D:DM}:∀(way:List Qu) {P P':Pl} {s:Qu} {i j:Nat} {f:Nd} {r:Option Int},Wj D way P s i j f=some (P',r)->P.like P'
 |[],P,P',s,i,j,f,r,h=>by
  unfold Wj at h;split at h
  ·rename_i y e;exact (q4y e).trans (qu3 h)
  ·cases h
 |t::way,P,P',s,i,j,f,r,h=>by
  unfold Wj at h;split at h
  ·rename_i y e;split at h
   ·rename_i x E B;have h2:=(q4y e).trans (qqc B);split at h
    ·rename_i A F u;exact (h2.trans (q99 u)).trans (qav way h)
    ·rename_i A u
     cases h;exact h2.trans (q99 u)
    ·cases h
   ·cases h
  ·cases h
theorem qqd {P P':Pl}{D:DM}{root:Int}{x:Qc}{r:Option Int}(h:P.O6 D root x=some (P',r)):P.like P':=by
 unfold Pl.O6 at h;split at h
 ·exact qav _ h
 ·cases h
theorem qqe {P P':Pl}{D:DM}{root:Int}{k:Kd}{r:Option Int}(h:P.Oq D root k=some (P',r)):P.like P':=by
 unfold Pl.Oq at h;split at h
 ·exact qav _ h
 ·cases h
theorem q6z (n:Nat):(Ct.zero n).kept=0:=by
 unfold Ct.kept;refine List.countP_eq_zero.2 λa e h=>of_decide_eq_true h ?_
 show (List.replicate n (0:Int)).getD a 0=0;rw[List.getD_eq_getElem?_getD,List.getElem?_replicate];split<;>rfl
def Jr (r:Int):List Int:=if r=0 then [] else [r]
structure Ed (b:Nat)(w:World)(d p:Nat)(U:Nat->Prop)(D:DM)(P:Pl)(H:List Int)(m:Nat)(g:Int):Prop where
 sys:∃S0 S T,Qi b w d p S0 S T D P/\(∀k,S0 k->U k)/\∀k,S k->U k
 low:∀k,U k->b<=k/\k<w.heap.size
 tab:Tab w
 keep:∃S0 C0,Keep D S0 C0 [] H P
 Ya:D.Ya m
 gen:P.S.gen<=g
section
variable {b:Nat}{w w':World}{d p:Nat}{U:Nat->Prop}{D:DM}{P:Pl}{H H0:List Int}{m:Nat}{g:Int}{root:Int}{its:List Qc}
theorem Ed.tidy (E:Ed b w d p U D P H m g):P.tidy:=by
 obtain⟨_,_,K⟩:=E.keep;exact⟨K.Zt.kind,K.laid⟩
theorem Ed.below (E:Ed b w d p U D P H m g)(hb:Below w.1.size w w'):Ed b w' d p U D P H m g:=by
 obtain⟨S0,S,T,h,h0,h1⟩:=E.sys;exact⟨⟨S0,S,T,h.below hb,h0,h1⟩,λk e=>⟨(E.low k e).1,by have:=(E.low k e).2;have:=hb.size;omega⟩,E.tab.below hb E.tab.1,E.keep,E.Ya,E.gen⟩
theorem Ed.src (E:Ed b w d p U D P H m g):Src w p (P.store D):=by
 obtain⟨S0,S,T,h,h0,h1⟩:=E.sys;obtain⟨_,_,K⟩:=E.keep;exact qvb h.U8 h.pool K.Zt.kind K.Zt.good
structure Bd (b:Nat)(w w':World)(d p:Nat)(U:Nat->Prop)(D:DM)(P P':Pl)(r:Int)(H0:List Int)(its:List Qc)(m:Nat)(g:Int):Prop where
 ed:Ed b w' d p U D P' (Jr r++H0) m g
 tree:Zb (P'.store D) r its
 like:P.like P'
 n:P'.C.n=P.C.n
 free:P.C.free<=P'.C.free+17
 old:∀l a t,a∈H0->Qp (P.store D) l a t->Qp (P'.store D) l a t
 turn:Turn U w w'
def Iz (b:Nat)(w:World)(d p:Nat)(U:Nat->Prop)(D:DM)(P:Pl)(H0:List Int)(its:List Qc)(m:Nat)(g:Int)(e:Ending)(w':World):Prop:=
 (∃r f,e=.returned (.tuple #[.int .i64 r,.int .i64 0])/\Bd b w w' d p U D P f r H0 its m g)\/((∃v,e=.returned (.tuple #[.int .i64 v,.int .i64 6]))/\P.C.free<17/\Turn U w w'/\Tab w')
theorem qqf {S0:Sp}{C0:Ct}{B G K:Nat->Prop}(J:Ed b w d p U D P H m g)(_:Qi b w d p B G K D P)(h0:∀k,B k->U k)(h1:∀k,G k->U k){E:Option (Pl × Option Int)}(ho:Yf D S0 C0 [] H0 P its 17 E)(Z:∀u r,E=some (u,r)->P.like u)
  {f:FuncId} {y:Array Value} (O:∀u r,E=some (u,r)->Calls Tryz.prog f y w (Gz b d p B G K D w u r)):Calls Tryz.prog f y w (Iz b w d p U D P H0 its m g):=by
 rcases ho with⟨u,r,I,F⟩|⟨u,I,Y⟩
 ·refine (O _ _ I).mono ?_;rintro e w' ⟨v,rfl,hv,A,X,M,td⟩;have:=hv r rfl;subst this;have T:=Z _ _ I;have ext:=F.old;rw[Nh,Nh] at ext;have W:=F.tree;rw[Nh] at W;refine .inl ⟨v,u,rfl,⟨⟨⟨B,G,K,A,h0,h1⟩,λk Q=>⟨(J.low k Q).1,by have:=(J.low k Q).2;have:=X.size;omega⟩,M,⟨S0,C0,F.keep⟩,J.Ya,by rw[T.1];exact J.gen⟩,W,T,F.n,F.free,ext,X.mono h1⟩⟩
 ·refine (O _ _ I).mono ?_;rintro e w' ⟨v,rfl,_,A,X,M,td⟩;exact .inr ⟨⟨v,rfl⟩,Y,X.mono h1,M⟩
theorem Ed.put (E:Ed b w d p U D P (Jr root++H0) m g)(hb:1<b)(hT:Zb (P.store D) root its)(hr:Qd its)(hf:∀x∈its,Ze x)(k:Kd)(v:List UInt8)(hx:Ze ⟨k,v⟩)(hfew:its.length<1000)(hH0:H0.length<=10000)(V:Option Addr)(q c:Nat)(hV:Sl w V q c v)(hVU:v≠[]->∀g,q01 V=some g->¬U g) :
  Calls Tryz.prog 30 #[.pointer (some ⟨p,0,none⟩),.int .i64 root,.agg #[.int .i64 k.obj,.int .i64 k.kind,.int .i64 k.off],.slice V q c] w (Iz b w d p U D P H0 (Zo k v false its) m g):=by
 obtain⟨G,I,J,f,h0,h1⟩:=E.sys;obtain⟨S0,C0,K⟩:=E.keep;rw[<-Nh] at hT;have A:q<=28:=by
  have:=hV.len;have:=hx.2.1;have e:(⟨k,v⟩:Qc).v=v:=rfl;rw[e] at this;omega
 exact qqf E f h0 h1 (qtw K hT hr hf hx hfew hH0) (λ_ _ h=>qqd h) λF r e=>qty f hb E.tab E.tidy root k V q c v (λu X=>hV.turned' X λB g y h=>hVU B g y (h1 g h)) hx.1 A e
theorem Ed.del (E:Ed b w d p U D P (Jr root++H0) m g)(hb:1<b)(hT:Zb (P.store D) root its)(hr:Qd its)(hf:∀x∈its,Ze x)(k:Kd)(hfew:its.length<1000)(hH0:H0.length<=10000)(hk:∃x∈its,x.k.same k=true) :
  Calls Tryz.prog 31 #[.pointer (some ⟨p,0,none⟩),.int .i64 root,.agg #[.int .i64 k.obj,.int .i64 k.kind,.int .i64 k.off]] w (Iz b w d p U D P H0 (Jv k its) m g):=by
 obtain⟨I,J,M,y,h0,h1⟩:=E.sys;obtain⟨S0,C0,K⟩:=E.keep;rw[<-Nh] at hT;have f:root≠0:=by
  rcases hT with⟨rfl,_⟩|⟨l,_,_,h,_⟩
  ·obtain⟨x,F,_⟩:=hk
   cases F
  ·omega
 obtain⟨up,s,A,O,u,B⟩:=qkj K hT hr hf f k hfew hH0;exact qqf E y h0 h1 (B (u.2 hk)) (λ_ _ h=>qqe h) λG r e=>qtz y hb E.tab E.tidy root k A (u.2 hk) e
theorem Ed.Qaz (E:Ed b w d p U D P (Jr root++H0) m g)(hb:1<b)(hT:Zb (P.store D) root its)(hr:Qd its)(hf:∀x∈its,Ze x)(k:Kd)(hfew:its.length<1000)(hH0:H0.length<=10000)(hk:¬∃x∈its,x.k.same k=true) :
  Calls Tryz.prog 31 #[.pointer (some ⟨p,0,none⟩),.int .i64 root,.agg #[.int .i64 k.obj,.int .i64 k.kind,.int .i64 k.off]] w λe w'=>e=.returned (.tuple #[.int .i64 0,.int .i64 10])/\Below w.1.size w w':=by
 obtain⟨F,G,I,y,h0,h1⟩:=E.sys;obtain⟨S0,C0,K⟩:=E.keep;rw[<-Nh] at hT;by_cases f:root=0
 ·exact qqb y hb E.tab E.tidy root k (if_pos f:P.way D root k=some ([],q46)) rfl
 ·obtain⟨up,s,A,J,B,M⟩:=qkj K hT hr hf f k hfew hH0;refine qqb y hb E.tab E.tidy root k A ?_
  cases u:Vb s.N.keys k (s.N.Za k) with
  |false=>rfl
  |true=>exact absurd (B.1 u) hk
theorem Ed.free (E:Ed b w d p U D P H m g)(n:Nat)(hn:P.C.free=n):Calls Tryz.prog 28 #[.pointer (some ⟨p,0,none⟩)] w λe w'=>e=.returned (.int .i64 (n:Int))/\w=w':=by
 obtain⟨u,y,A,f,h0,h1⟩:=E.sys;exact qoo f.pool n hn
theorem Ed.commit (E:Ed b w d p U D P H m g)(hb:1<b)(hm:m<=500000)(hg:g<=1000000) :
  Calls Tryz.prog 23 #[.pointer (some ⟨p,0,none⟩)] w λe w'=>e=.returned (.int .i64 0)/\Ed b w' d p (grow U w w') (D.Qk P.steps) P.done H (m+2100) (g+1)/\Turn U w w'/\∀l a t,Qp (P.store D) l a t->Qp (P.done.store (D.Qk P.steps)) l a t:=by
 obtain⟨F,G,I,A,h0,h1⟩:=E.sys;obtain⟨S0,C0,K⟩:=E.keep;have u:P.g<1099511627775:=by have:=E.gen;unfold Pl.g;omega
 refine (qqn A hb E.tab E.Ya hm u).mono ?_;rintro e w' ⟨rfl,y,X,J⟩;obtain⟨c1,c2,_⟩:=qrw K.Zt.ok K.Zt.sound;rw[c1];rw[c2] at y;obtain⟨B,ext⟩:=qii K u;have M:=X.size;refine⟨rfl,⟨⟨grow F w w',G,grow I w w',y,λk f=>⟨f.1.imp (h0 k) id,f.2⟩,λk f=>⟨.inl (h1 k f),by have:=(E.low k (h1 k f)).2;omega⟩⟩,λk f=>⟨f.1.elim (λh=>(E.low k h).1) λh=>by have:=A.base;omega,f.2⟩,J,⟨_,_,B⟩,(q3c _ E.Ya).mono (by have:=qux K.Zt.ok;omega),by show P.S.gen+1<=g+1;have:=E.gen;omega⟩,X.mono λk f=>f.elim (h0 k) (h1 k),λl a t h=>P9 ext h⟩
end
