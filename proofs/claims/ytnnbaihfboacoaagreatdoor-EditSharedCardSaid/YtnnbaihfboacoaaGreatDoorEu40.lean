/- How many blocks the trees of a pool have, and how many are free -/
import Derived.Test.YtnnbaihfboacoaaGreatDoorEu39
namespace Go.Proofs.YtnnbaihfboacoaaGreatDoor
open Go Go.RowKit Go.Proofs
set_option maxHeartbeats 8000000
set_option maxRecDepth 100000
theorem qgo {α:Type}:∀{l l':List α},l.Nodup->(∀x∈l,x∈l')->l.length<=l'.length
 |[],_,_,_=>Nat.zero_le _
 |x::t,l',hn,hs=>by
  obtain⟨h1,h2⟩:=List.nodup_cons.1 hn;obtain⟨s,u,rfl⟩:=List.append_of_mem (hs x (List.mem_cons_self ..));have:=qgo (l':=s++u) h2 λy e=>by
   have f:=hs y (List.mem_cons_of_mem _ e);rcases List.mem_append.1 f with h|h
   ·exact List.mem_append_left _ h
   ·rcases List.mem_cons.1 h with h|h
    ·exact absurd (h▸e) h1
    ·exact List.mem_append_right _ h
  rw[List.length_append,List.length_cons] at *;simp only[List.length_cons];omega
theorem qkm {α:Type}{p a b c d:α->Bool}:∀(l:List α),(∀x∈l,p x=true->a x=true\/b x=true\/c x=true\/d x=true)->l.countP p<=l.countP a+(l.countP b+(l.countP c+l.countP d))
 |[],_=>by simp
 |x::t,h=>by
  have B:=qkm t λy u=>h y (List.mem_cons_of_mem _ u)
  have f:=h x (List.mem_cons_self ..);simp only[List.countP_cons];by_cases e:p x=true
  ·rcases f e with h|h|h|h<;>rw[if_pos h,if_pos e]<;>split<;>omega
  ·rw[if_neg e];omega
def Yk (R:Int->Nd × Int):Nat->Int->List Int
 |0,a=>[a]
 |l+1,a=>a::(R a).1.kids.flatMap λx=>Yk R l x.a
theorem qcw (R:Int->Nd × Int):∀(l:Nat) (a:Int),a∈Yk R l a
 |0,_a=>List.mem_cons_self ..
 |_l+1,_a=>List.mem_cons_self ..
theorem q8q {R:Int->Nd × Int}:∀{l:Nat} {r b:Int} {its:List Qc},Qp R l r its->b∈Yk R l r->∀x∈(R b).1.kids,x.a∈Yk R l r
 |0,r,b,its,h,f,x,hx=>by
  obtain rfl:b=r:=List.mem_singleton.1 f;rw[h.1] at hx
  cases hx
 |l+1,r,b,its,h,f,x,hx=>by
  rcases List.mem_cons.1 f with rfl|f
  ·exact List.mem_cons_of_mem _ (List.mem_flatMap.2 ⟨x,hx,qcw R l x.a⟩)
  ·obtain⟨k,y,f⟩:=List.mem_flatMap.1 f;obtain⟨kids,parts,e,I,J,K,G⟩:=h;rw[e] at y;obtain⟨j,u,F⟩:=List.getElem_of_mem y;have E:Qg kids j=k:=by
    have:=Rf u;rw[List.getElem?_eq_getElem u,F] at this;exact (Option.some.inj this).symm
   have B:=(G j u).1;rw[E] at B;have:=q8q B f x hx;refine List.mem_cons_of_mem _ (List.mem_flatMap.2 ⟨k,?_,this⟩);rw[e];exact y
theorem qat {R:Int->Nd × Int}{l:Nat}(h:∀y:Zw,good1 R l y->(Yk R l y.1).length+2<=y.2.length):∀(G:List Zw),(∀x∈G,good1 R l x)->(G.flatMap λx=>Yk R l x.1).length+2*G.length<=(G.map (·.2)).flatten.length
 |[],_=>by simp
 |y::G,hg=>by
  have h1:=h y (hg y (List.mem_cons_self ..));have h2:=qat h G λx e=>hg x (List.mem_cons_of_mem _ e)
  simp only[List.flatMap_cons,List.map_cons,List.flatten_cons,List.length_append,List.length_cons];omega
section
variable {D:DM}{S0:Sp}{C0:Ct}{H:List Int}{P:Pl}
theorem qcx (R:Int->Nd × Int)(l:Nat)(G:List Zw):((G.map Qn).flatMap λx=>Yk R l x.a)=G.flatMap λx=>Yk R l x.1:=by
 induction G with
 |nil=>rfl
 |cons y G ih=>rw[List.map_cons,List.flatMap_cons,List.flatMap_cons,ih];rfl
theorem Keep.few (K:Keep D S0 C0 [] H P):∀(l:Nat) (y:Zw),good1 (P.hide D []) l y->(Yk (P.hide D []) l y.1).length+2<=y.2.length
 |0,y,h=>by
  have:=K.long 0 y h;show 1+2<=_;omega
 |l+1,y,h=>by
  obtain⟨M,f,E,_,_⟩:=K.Fp h.1;have B:=(q3n f).1 h.2.1;obtain⟨G,e,rfl,F⟩:=f;have u:Qr ((l+1:Nat):Int)=6:=if_neg (by omega);rw[u,List.length_map] at B;have h2:=qat (λy I=>K.few l y I) G F;show (y.1::_).length+2<=_;rw[List.length_cons,e,qcx,<-E];omega
theorem Keep.Qae (K:Keep D S0 C0 [] H P){l:Nat}{a:Int}{its:List Qc}(h:Qp (P.hide D []) l a its):(Yk (P.hide D []) l a).length<=its.length:=by
 obtain⟨M,u,E,B,I⟩:=K.Fp h
 cases l with
 |zero=>
  have:=h.2;show 1<=_;exact List.length_pos_iff.2 this
 |succ l=>
  obtain⟨G,e,rfl,F⟩:=u;have h2:=qat (λy J=>K.few l y J) G F;have f:=(Py B.may (by rw[e];show ¬((l+1:Nat):Int)=0;omega)).2.2.2.1;rw[e] at f;have f:2<=(G.map Qn).length:=f;rw[List.length_map] at f;show (a::_).length<=_;rw[List.length_cons,e,qcx,<-E];omega
def Ct.used (C:Ct):Nat:=(List.range C.n).countP λa=>decide (nm C.now a≠0)
def Ct.kept (C:Ct):Nat:=(List.range C.n).countP λa=>decide (nm C.done a≠0)
theorem qau (C:Ct):C.n<=C.free+(C.first+(C.used+C.kept)):=by
 have h:=qkm (p:=λ_=>true) (a:=λj=>C.may j) (b:=λj=>decide (j<C.first)) (c:=λa=>decide (nm C.now a≠0)) (d:=λa=>decide (nm C.done a≠0)) (List.range C.n) λx E _=>by
  by_cases h1:x<C.first
  ·exact .inr (.inl (decide_eq_true h1))
  ·by_cases h2:nm C.now x=0
   ·by_cases e:nm C.done x=0
    ·left
     unfold Ct.may Ct.U3;simp[h2,e];omega
    ·exact .inr (.inr (.inr (decide_eq_true e)))
   ·exact .inr (.inr (.inl (decide_eq_true h2)))
 have u:(List.range C.n).countP (λ_=>true)=C.n:=by
  rw[List.countP_eq_length.2 λ_ _=>rfl,List.length_range]
 have B:(List.range C.n).countP (λj=>decide (j<C.first))<=C.first:=by
  generalize C.n=n;generalize C.first=f
  induction n with
  |zero=>simp
  |succ n ih=>
   rw[List.range_succ,List.countP_append];by_cases hn:n<f
   ·have:(List.range n).countP (λj=>decide (j<f))<=n:=by
     have:=List.countP_le_length (p:=λj=>decide (j<f)) (l:=List.range n);rw[List.length_range] at this;exact this
    simp[hn];omega
   ·simp[hn];omega
 have y:(List.range C.n).countP (λj=>C.may j)=C.free:=by unfold Ct.free Ct.Jw;rfl
 rw[u,y] at h;unfold Ct.used Ct.kept;omega
def Nw (R:Int->Nd × Int)(L:List (Nat × Int × List Qc)):Prop:=∀x∈L,Qp R x.1 x.2.1 x.2.2
theorem Keep.used (K:Keep D S0 C0 [] H P){L:List (Nat × Int × List Qc)}(hL:Nw (P.hide D []) L)(hH:∀a∈H,∃x∈L,x.2.1=a):P.C.used<=(L.map λx=>x.2.2.length).sum:=by
 have h1:∀a:Nat,a<P.C.n->P.C.get (a:Int)≠0->(a:Int)∈L.flatMap λx=>Yk (P.hide D []) x.1 x.2.1:=λa B h0=>
  qbp K.Qcd K.Ui K.c K.Zt.ok.res (S:=λa:Nat=>(a:Int)∈L.flatMap λx=>Yk (P.hide D []) x.1 x.2.1) (λb E O F=>by
   obtain⟨x,f,e⟩:=hH _ F;exact List.mem_flatMap.2 ⟨x,f,e▸qcw _ _ _⟩) (λb c E O T W Q G ⟨y,J,e⟩=>by
   obtain⟨x,f,I⟩:=List.mem_flatMap.1 G;refine List.mem_flatMap.2 ⟨x,f,?_⟩;rw[<-e];refine q8q (hL x f) I y ?_;rw[Nh];exact J) a B h0
 have h2:(((List.range P.C.n).filter λa=>decide (nm P.C.now a≠0)).map λa:Nat=>(a:Int)).length<=(L.flatMap λx=>Yk (P.hide D []) x.1 x.2.1).length:=by
  refine qgo ?_ λx f=>?_
  ·refine List.Pairwise.map _ (R:=λa b:Nat=>a≠b) (λa b h (e:(a:Int)=(b:Int))=>h (by omega)) ?_;exact List.nodup_range.filter _
  ·obtain⟨a,B,rfl⟩:=List.mem_map.1 f;obtain⟨u,M⟩:=List.mem_filter.1 B;have u:=List.mem_range.1 u;refine h1 a u λe=>of_decide_eq_true M ?_
   unfold Ct.get at e;rw[if_pos (by omega),Int.toNat_natCast] at e;exact e
 rw[List.length_map,<-List.countP_eq_length_filter] at h2;have u:∀(L:List (Nat × Int × List Qc)),Nw (P.hide D []) L->(L.flatMap λx=>Yk (P.hide D []) x.1 x.2.1).length<=(L.map λx=>x.2.2.length).sum:=by
  intro L;induction L with
  |nil=>intro _;simp
  |cons x t ih=>
   intro h;have X:=K.Qae (h x (List.mem_cons_self ..));have Y:=ih λy J=>h y (List.mem_cons_of_mem _ J)
   rw[List.flatMap_cons,List.length_append,List.map_cons,List.sum_cons];omega
 exact Nat.le_trans h2 (u L hL)
end
def Pl.like (P P':Pl):Prop:=P'.S=P.S/\P'.C.done=P.C.done
theorem Pl.like.refl (P:Pl):P.like P:=⟨rfl,rfl⟩
theorem Pl.like.trans {P P' P'':Pl}(h:P.like P')(h2:P'.like P''):P.like P'':=⟨h2.1.trans h.1,h2.2.trans h.2⟩
theorem qu1 (P:Pl)(a:Int):P.like ⟨P.S,P.C.ref a,P.L⟩:=⟨rfl,by show (P.C.ref a).done=_;unfold Ct.ref;split<;>rfl⟩
theorem qcy (P:Pl)(a:Int):P.like ⟨P.S,P.C.Qy a,P.L⟩:=⟨rfl,by show (P.C.Qy a).done=_;unfold Ct.Qy;split<;>rfl⟩
theorem q98 (P:Pl)(N:Nd):P.like (P.Zn N):=by
 unfold Pl.Zn;split
 ·unfold Pl.lay;split
  ·exact⟨rfl,by show P.C.alloc.done=_;unfold Ct.alloc;split<;>rfl⟩
  ·exact .refl _
 ·exact .refl _
theorem qu2 (P:Pl)(a:Int)(N:Nd):P.like (P.Vq a N):=by
 unfold Pl.Vq;split
 ·exact⟨rfl,rfl⟩
 ·exact .refl _
theorem qcz:∀(l:List Int) {P P':Pl},Um l P=some P'->P.like P'
 |[],P,P',h=>by cases h;exact .refl _
 |a::l,P,P',h=>by
  unfold Um at h;split at h
  ·exact (qu1 P a).trans (qcz l h)
  ·cases h
theorem q8r:∀(l:List Int) {P P':Pl},q3g l P=some P'->P.like P'
 |[],P,P',h=>by cases h;exact .refl _
 |a::l,P,P',h=>by
  unfold q3g at h;split at h
  ·exact (qcy P a).trans (q8r l h)
  ·cases h
theorem q4y {P P':Pl}{s:Qu}{i j:Nat}(h:P.Qx s i j=some P'):P.like P':=by
 unfold Pl.Qx at h;split at h
 ·exact qcz _ h
 ·split at h
  ·cases h;exact .refl _
  ·exact q8r _ h
theorem qgp {P P':Pl}{D:DM}{s:Qu}{i:Nat}(h:P.near D s i=some P'):P.like P':=by
 unfold Pl.near at h;split at h
 ·exact q4y h
 ·cases h
theorem qqc {P P':Pl}{D:DM}{s t:Qu}{b:Nd}{x:Px}(h:P.have_ D s b t=some (x,P')):P.like P':=by
 unfold Pl.have_ at h;split at h
 ·cases h;exact .refl _
 ·split at h
  ·obtain⟨q,h1,h2⟩:=Option.map_eq_some_iff.1 h
   cases h2;exact qgp h1
  ·obtain⟨q,h1,h2⟩:=Option.map_eq_some_iff.1 h
   cases h2;exact qgp h1
theorem q82 {P P':Pl}{s:Qu}(h:P.leave s=some P'):P.like P':=by
 unfold Pl.leave at h;split at h
 ·cases h;exact .refl _
 ·split at h
  ·cases h;exact qcy P _
  ·cases h
theorem q6y:∀(l:List Qu) {P P':Pl} {r u:List Nd} {ks f:List Ql},Gu l P r ks=some (P',u,f)->P.like P'
 |[],P,P',r,u,ks,f,h=>by unfold Gu at h;cases h;exact .refl _
 |s::l,P,P',[],u,ks,f,h=>by
  unfold Gu at h;split at h
  ·rename_i y e;exact (q82 e).trans (q6y l h)
  ·cases h
 |s::l,P,P',b::r,u,ks,f,h=>by
  unfold Gu at h;split at h
  ·split at h
   ·rename_i y e;exact (q82 e).trans (q6y l h)
   ·cases h
  ·split at h
   ·exact (qu2 P _ _).trans (q6y l h)
   ·cases h
theorem qkn:∀(l:List Nd) {P P':Pl} {ks:List Ql} {q:Option (List Ql)},Xe l P ks=some (P',q)->P.like P'
 |[],P,P',ks,q,h=>by unfold Xe at h;cases h;exact .refl _
 |b::l,P,P',ks,q,h=>by
  unfold Xe at h;split at h
  ·exact (q98 P b).trans (qkn l h)
  ·split at h
   ·cases h;exact q98 P b
   ·cases h
theorem q99 {P P':Pl}{x:Px}{q:Option (List Ql)}(h:P.Y7 x=some (P',q)):P.like P':=by
 unfold Pl.Y7 at h;split at h
 ·rename_i u f y e;exact (q6y _ e).trans (qkn _ h)
 ·cases h
theorem qu3 {P P':Pl}{s:Qu}{b:Nd}{r:Option Int}(h:P.top s b=some (P',r)):P.like P':=by
 unfold Pl.top at h;split at h
 ·obtain⟨q,h1,h2⟩:=Option.map_eq_some_iff.1 h
  cases h2;exact q82 h1
 ·split at h
  ·rename_i f u e;have h0:=q99 e;split at h
   ·cases h;exact h0
   ·split at h
    ·cases h;exact h0
    ·split at h
     ·cases h;exact h0.trans (q98 f _)
     ·split at h
      ·cases h;exact h0.trans (q98 f _)
      ·cases h
  ·rename_i f e
   cases h;exact q99 e
  ·cases h
theorem qav {D:DM}:∀(way:List Qu) {P P':Pl} {s:Qu} {i j:Nat} {f:Nd} {r:Option Int},Wj D way P s i j f=some (P',r)->P.like P'
 |[],P,P',s,i,j,f,r,h=>by
  unfold Wj at h;split at h
  ·rename_i y e;exact (q4y e).trans (qu3 h)
  ·cases h
 |t::way,P,P',s,i,j,f,r,h=>by
  unfold Wj at h;split at h
  ·rename_i y e;split at h
   ·rename_i x F E;have h2:=(q4y e).trans (qqc E);split at h
    ·rename_i B G u;exact (h2.trans (q99 u)).trans (qav way h)
    ·rename_i B u
     cases h;exact h2.trans (q99 u)
    ·cases h
   ·cases h
  ·cases h
theorem qqd {P P':Pl}{D:DM}{root:Int}{x:Qc}{r:Option Int}(h:P.O6 D root x=some (P',r)):P.like P':=by
 unfold Pl.O6 at h;split at h
 ·exact qav _ h
 ·cases h
theorem qqe {P P':Pl}{D:DM}{root:Int}{k:Kd}{r:Option Int}(h:P.Oq D root k=some (P',r)):P.like P':=by
 unfold Pl.Oq at h;split at h
 ·exact qav _ h
 ·cases h
theorem q4z {P P':Pl}(h:P.like P')(hn:P'.C.n=P.C.n):P'.C.kept=P.C.kept:=by
 unfold Ct.kept;rw[h.2,hn]
theorem q6z (n:Nat):(Ct.zero n).kept=0:=by
 unfold Ct.kept;refine List.countP_eq_zero.2 λa e h=>of_decide_eq_true h ?_
 show (List.replicate n (0:Int)).getD a 0=0;rw[List.getD_eq_getElem?_getD,List.getElem?_replicate];split<;>rfl
def Jr (r:Int):List Int:=if r=0 then [] else [r]
structure Ed (b:Nat)(w:World)(d p:Nat)(U:Nat->Prop)(D:DM)(P:Pl)(H:List Int)(m:Nat)(g:Int):Prop where
 sys:∃S0 S T,Qi b w d p S0 S T D P/\(∀k,S0 k->U k)/\∀k,S k->U k
 low:∀k,U k->b<=k/\k<w.heap.size
 tab:Tab w
 keep:∃S0 C0,Keep D S0 C0 [] H P
 Ya:D.Ya m
 gen:P.S.gen<=g
section
variable {b:Nat}{w w':World}{d p:Nat}{U:Nat->Prop}{D:DM}{P:Pl}{H H0:List Int}{m:Nat}{g:Int}{root:Int}{its:List Qc}
theorem Ed.tidy (E:Ed b w d p U D P H m g):P.tidy:=by
 obtain⟨_,_,K⟩:=E.keep;exact⟨K.Zt.kind,K.laid⟩
theorem Ed.below (E:Ed b w d p U D P H m g)(hb:Below w.1.size w w'):Ed b w' d p U D P H m g:=by
 obtain⟨S0,S,T,h,h0,h1⟩:=E.sys;exact⟨⟨S0,S,T,h.below hb,h0,h1⟩,λk e=>⟨(E.low k e).1,by have:=(E.low k e).2;have:=hb.size;omega⟩,E.tab.below hb E.tab.1,E.keep,E.Ya,E.gen⟩
theorem Ed.src (E:Ed b w d p U D P H m g):Src w p (P.store D):=by
 obtain⟨S0,S,T,h,h0,h1⟩:=E.sys;obtain⟨_,_,K⟩:=E.keep;exact qvb h.U8 h.pool K.Zt.kind K.Zt.good
structure Bd (b:Nat)(w w':World)(d p:Nat)(U:Nat->Prop)(D:DM)(P P':Pl)(r:Int)(H0:List Int)(its:List Qc)(m:Nat)(g:Int):Prop where
 ed:Ed b w' d p U D P' (Jr r++H0) m g
 tree:Zb (P'.store D) r its
 like:P.like P'
 n:P'.C.n=P.C.n
 free:P.C.free<=P'.C.free+17
 old:∀l a t,a∈H0->Qp (P.store D) l a t->Qp (P'.store D) l a t
 turn:Turn U w w'
def Iz (b:Nat)(w:World)(d p:Nat)(U:Nat->Prop)(D:DM)(P:Pl)(H0:List Int)(its:List Qc)(m:Nat)(g:Int)(e:Ending)(w':World):Prop:=
 (∃r f,e=.returned (.tuple #[.int .i64 r,.int .i64 0])/\Bd b w w' d p U D P f r H0 its m g)\/((∃v,e=.returned (.tuple #[.int .i64 v,.int .i64 6]))/\P.C.free<17/\Turn U w w'/\Tab w')
theorem qqf {S0:Sp}{C0:Ct}{G I M:Nat->Prop}(K:Ed b w d p U D P H m g)(_:Qi b w d p G I M D P)(h0:∀k,G k->U k)(h1:∀k,I k->U k){E:Option (Pl × Option Int)}(ho:Yf D S0 C0 [] H0 P its 17 E)(Z:∀u r,E=some (u,r)->P.like u)
  {f:FuncId} {y:Array Value} (Q:∀u r,E=some (u,r)->Calls Tryz.prog f y w (Gz b d p G I M D w u r)):Calls Tryz.prog f y w (Iz b w d p U D P H0 its m g):=by
 rcases ho with⟨u,r,J,F⟩|⟨u,J,Y⟩
 ·refine (Q _ _ J).mono ?_;rintro e w' ⟨v,rfl,hv,B,X,O,td⟩;have:=hv r rfl;subst this;have T:=Z _ _ J;have ext:=F.old;rw[Nh,Nh] at ext;have W:=F.tree;rw[Nh] at W;refine .inl ⟨v,u,rfl,⟨⟨⟨G,I,M,B,h0,h1⟩,λk R=>⟨(K.low k R).1,by have:=(K.low k R).2;have:=X.size;omega⟩,O,⟨S0,C0,F.keep⟩,K.Ya,by rw[T.1];exact K.gen⟩,W,T,F.n,F.free,ext,X.mono h1⟩⟩
 ·refine (Q _ _ J).mono ?_;rintro e w' ⟨v,rfl,_,B,X,O,td⟩;exact .inr ⟨⟨v,rfl⟩,Y,X.mono h1,O⟩
theorem Ed.put (E:Ed b w d p U D P (Jr root++H0) m g)(hb:1<b)(hT:Zb (P.store D) root its)(hr:Qd its)(hf:∀x∈its,Ze x)(k:Kd)(v:List UInt8)(hx:Ze ⟨k,v⟩)(hfew:its.length<1000)(hH0:H0.length<=10000)(V:Option Addr)(q c:Nat)(hV:Sl w V q c v)(hVU:v≠[]->∀g,q01 V=some g->¬U g) :
  Calls Tryz.prog 30 #[.pointer (some ⟨p,0,none⟩),.int .i64 root,.agg #[.int .i64 k.obj,.int .i64 k.kind,.int .i64 k.off],.slice V q c] w (Iz b w d p U D P H0 (Zo k v false its) m g):=by
 obtain⟨I,J,M,f,h0,h1⟩:=E.sys;obtain⟨S0,C0,K⟩:=E.keep;rw[<-Nh] at hT;have B:q<=28:=by
  have:=hV.len;have:=hx.2.1;have e:(⟨k,v⟩:Qc).v=v:=rfl;rw[e] at this;omega
 exact qqf E f h0 h1 (qtw K hT hr hf hx hfew hH0) (λ_ _ h=>qqd h) λG r e=>qty f hb E.tab E.tidy root k V q c v (λu X=>hV.turned' X λF g y h=>hVU F g y (h1 g h)) hx.1 B e
theorem Ed.del (E:Ed b w d p U D P (Jr root++H0) m g)(hb:1<b)(hT:Zb (P.store D) root its)(hr:Qd its)(hf:∀x∈its,Ze x)(k:Kd)(hfew:its.length<1000)(hH0:H0.length<=10000)(hk:∃x∈its,x.k.same k=true) :
  Calls Tryz.prog 31 #[.pointer (some ⟨p,0,none⟩),.int .i64 root,.agg #[.int .i64 k.obj,.int .i64 k.kind,.int .i64 k.off]] w (Iz b w d p U D P H0 (Jv k its) m g):=by
 obtain⟨J,M,O,y,h0,h1⟩:=E.sys;obtain⟨S0,C0,K⟩:=E.keep;rw[<-Nh] at hT;have f:root≠0:=by
  rcases hT with⟨rfl,_⟩|⟨l,_,_,h,_⟩
  ·obtain⟨x,G,_⟩:=hk
   cases G
  ·omega
 obtain⟨up,s,B,Q,u,F⟩:=qkj K hT hr hf f k hfew hH0;exact qqf E y h0 h1 (F (u.2 hk)) (λ_ _ h=>qqe h) λI r e=>qtz y hb E.tab E.tidy root k B (u.2 hk) e
theorem Ed.Qaz (E:Ed b w d p U D P (Jr root++H0) m g)(hb:1<b)(hT:Zb (P.store D) root its)(hr:Qd its)(hf:∀x∈its,Ze x)(k:Kd)(hfew:its.length<1000)(hH0:H0.length<=10000)(hk:¬∃x∈its,x.k.same k=true) :
  Calls Tryz.prog 31 #[.pointer (some ⟨p,0,none⟩),.int .i64 root,.agg #[.int .i64 k.obj,.int .i64 k.kind,.int .i64 k.off]] w λe w'=>e=.returned (.tuple #[.int .i64 0,.int .i64 10])/\Below w.1.size w w':=by
 obtain⟨G,I,J,y,h0,h1⟩:=E.sys;obtain⟨S0,C0,K⟩:=E.keep;rw[<-Nh] at hT;by_cases f:root=0
 ·exact qqb y hb E.tab E.tidy root k (if_pos f:P.way D root k=some ([],q46)) rfl
 ·obtain⟨up,s,B,M,F,O⟩:=qkj K hT hr hf f k hfew hH0;refine qqb y hb E.tab E.tidy root k B ?_
  cases u:Vb s.N.keys k (s.N.Za k) with
  |false=>rfl
  |true=>exact absurd (F.1 u) hk
theorem Ed.commit (E:Ed b w d p U D P H m g)(hb:1<b)(hm:m<=500000)(hg:g<=1000000) :
  Calls Tryz.prog 23 #[.pointer (some ⟨p,0,none⟩)] w λe w'=>e=.returned (.int .i64 0)/\Ed b w' d p (grow U w w') (D.Qk P.steps) P.done H (m+2100) (g+1)/\Turn U w w'/\∀l a t,Qp (P.store D) l a t->Qp (P.done.store (D.Qk P.steps)) l a t:=by
 obtain⟨G,I,J,B,h0,h1⟩:=E.sys;obtain⟨S0,C0,K⟩:=E.keep;have u:P.g<1099511627775:=by have:=E.gen;unfold Pl.g;omega
 refine (qqn B hb E.tab E.Ya hm u).mono ?_;rintro e w' ⟨rfl,y,X,M⟩;obtain⟨c1,c2,_⟩:=qrw K.Zt.ok K.Zt.sound;rw[c1];rw[c2] at y;obtain⟨F,ext⟩:=qii K u;have O:=X.size;refine⟨rfl,⟨⟨grow G w w',I,grow J w w',y,λk f=>⟨f.1.imp (h0 k) id,f.2⟩,λk f=>⟨.inl (h1 k f),by have:=(E.low k (h1 k f)).2;omega⟩⟩,λk f=>⟨f.1.elim (λh=>(E.low k h).1) λh=>by have:=B.base;omega,f.2⟩,M,⟨_,_,F⟩,(q3c _ E.Ya).mono (by have:=qux K.Zt.ok;omega),by show P.S.gen+1<=g+1;have:=E.gen;omega⟩,X.mono λk f=>f.elim (h0 k) (h1 k),λl a t h=>P9 ext h⟩
end
theorem J4.cellV {w:World}{base n c:Nat}{A:Option Addr}{xs:List Qc}(h:J4 w base A n c xs){j:Nat}(hj:j<n):∃b o V p q,A=some ⟨b,o,none⟩/\b<w.1.size/\w.cell? ⟨b,o+j*4+3,none⟩=some (.slice V p q)/\Sl w V p q (Qj xs j).v/\((Qj xs j).v≠[]->∀g,q01 V=some g->base<=g):=by
 have J:=h.Zq.len;obtain⟨f,h1,h2,G⟩:=h;have F:f[j]?=some (f[j]'(by omega)):=List.getElem?_eq_getElem (by omega);obtain⟨B,m,d,e,I,y⟩:=G j _ _ F (q11 (by omega));obtain⟨g,o,rfl,u,_,E⟩:=(h1.Vs (by omega)).2.2.2 j _ F;rw[e] at E;exact⟨g,o,B,m,d,rfl,u,E 3 _ rfl,I,λh g u=>(y h g u).1⟩
theorem qtx {w:World}{p:Nat}{R:Int->Nd × Int}(H:Src w p R)(ht:Tab w)(root:Int)(k:Kd) :
  Calls Tryz.prog 17 #[.pointer (some ⟨p,0,none⟩),.int .i64 root,.agg #[.int .i64 k.obj,.int .i64 k.kind,.int .i64 k.off]] w λe w'=>∃A n c,e=.returned (.tuple #[.slice A n c,.int .i64 (Bl R k root).2])/\Sl w' A n c (Bl R k root).1/\((Bl R k root).1≠[]->∀g,q01 A=some g->w.1.size<=g)/\Below w.1.size w w':=by
 have O:KB ((w.alloc (.cells #[.int .i64 k.obj,.int .i64 k.kind,.int .i64 k.off] 30)).alloc (.cells #[.int .i64 0,.slice none 0 0,.slice none 0 0] 75)) w.1.size k:=(KB.new w k.obj k.kind k.off _).below (Qm) (by simp);have N1:NB ((w.alloc (.cells #[.int .i64 k.obj,.int .i64 k.kind,.int .i64 k.off] 30)).alloc (.cells #[.int .i64 0,.slice none 0 0,.slice none 0 0] 75)) (w.1.size+1) 0 none 0 0 none 0 0:=NB.new2 w _ _ _ _ _ _ _ _ _;have b1:Below w.1.size w ((w.alloc (.cells #[.int .i64 k.obj,.int .i64 k.kind,.int .i64 k.off] 30)).alloc (.cells #[.int .i64 0,.slice none 0 0,.slice none 0 0] 75)):=(Qm).alloc (by simp) _;have z1:((w.alloc (.cells #[.int .i64 k.obj,.int .i64 k.kind,.int .i64 k.off] 30)).alloc (.cells #[.int .i64 0,.slice none 0 0,.slice none 0 0] 75)).1.size=w.1.size+2:=by simp
 have J:=Lib.hid (qgi R k root);have hL:=Lib.hid (λh=>qcv (k:=k) (root:=root) H.may h);obtain⟨F,hF⟩:∃F,Yh R k root=F:=⟨_,rfl⟩;obtain⟨G,Z⟩:∃G,Bl R k root=G:=⟨_,rfl⟩;rw[hF] at J hL;rw[Z] at J ⊢;have HF:=Lib.hid hF;clear hF Z;have k0:=O.c0;have k1:=O.c1;have k2:=O.c2;go_enter Tryz.func17,Tryz.ntmps17
 go_wp2_with fail
 generalize (w.alloc (.cells #[.int .i64 k.obj,.int .i64 k.kind,.int .i64 k.off] 30)).alloc (.cells #[.int .i64 0,.slice none 0 0,.slice none 0 0] 75)=w1 at O N1 b1 z1 k0 k1 k2 ⊢;have I1:GInv w (w.1.size+1) [] (λk=>k=w.1.size+1) w1:=⟨w1.1.size,w1.1.size,none,0,0,none,0,0,N1,qgk w1,.inl (by omega),by omega,by omega,λk=>⟨.inl,λh=>h.elim id λh=>by omega⟩⟩;refine (qgh H qgj b1 ht root k _ I1).mono ?_;rw[HF.out];rintro e w2 ⟨rfl,T,⟨lo,hi,A,n,c,B,m,d,Q,Hd,-,-,a8,-⟩,X,X2⟩;have K2:=O.keep (X2.block _ O.lt (by show ¬w.1.size=w.1.size+1;omega));clear k0 k1 k2 I1;obtain⟨M,hM⟩:∃M,Yj F.1=M:=⟨_,rfl⟩;obtain⟨E,hE⟩:∃E,F.2=E:=⟨_,rfl⟩;rw[hM] at Q Hd;rw[hM,hE] at J hL;rw[hE];clear hM hE HF;by_cases h0:E=0
 ·subst h0;obtain⟨-,I,u⟩:=hL.out rfl;have f:=J.out;rw[if_neg (by simp)] at f;obtain⟨t,y⟩:∃t,M.Za k=t:=⟨_,rfl⟩;obtain⟨r,hr⟩:∃r,Vb M.keys k t=r:=⟨_,rfl⟩;obtain⟨r2,s2⟩:=Hd.rows;have K:M.items.length=n:=r2.Zq.len;have W:=Lib.hid (q22 M I k t y r hr A n c B m d w2 r2.Zq s2 (by have:=Hd.2.1;omega) (by have:=Hd.2.2.1;omega));have p0:=Q.c0;have p1:=Q.c1;have p2:=Q.c2;have k0:=K2.c0;have k1:=K2.c1;have k2:=K2.c2;unfold qel at f;rw[y,hr] at f;rw[y,hr,K] at u;have u:=Lib.hid u;have K:=Lib.hid K;clear I J hL y hr r2 s2
  cases r with
  |false=>
   rw[if_neg (by simp)] at f;subst f;go_wp2_with fail
   refine W.out.mono ?_;rintro e w3 ⟨rfl,Y⟩;clear p0 p1 p2 k0 k1 k2;go_wp2_with fail
   go_ret2;exact⟨none,0,0,rfl,q24 _,X.trans (Y.mono X.size)⟩
  |true=>
   rw[if_pos rfl] at f;have a6:=u.out rfl;have Hg:=Lib.hid f;clear f;go_wp2_with fail
   refine W.out.mono ?_;rintro e w3 ⟨rfl,Y⟩;have q1:=(Q.below Y Q.lt).c1;clear p0 p1 p2 k0 k1 k2;obtain⟨r3,-⟩:=(Hd.below Y).rows;obtain⟨g,o,V,a,b,rfl,hg,y3,hs,a1⟩:=r3.cellV a6;have a2:=Lib.hid a1;clear a1;have e0:(0:Int)<=(t:Int):=by omega
   have e1:(t:Int)<(n:Int):=by omega
   obtain⟨_,a7⟩:=r3.Zq.bounds;clear r3;go_wp2_with fail
   go_ret2;refine⟨V,a,b,by rw[Hg.out];rfl,by rw[Hg.out];exact hs,by rw[Hg.out];exact λh1 g hg=>by have:=a2.out h1 g hg;omega,X.trans (Y.mono X.size)⟩
 ·have f:=J.out;rw[if_pos h0] at f;have g1:(E==0)=false:=by simp[h0]
  have g2:(E != 0)=true:=by simp[h0]
  subst f;clear h0 J hL;go_wp2_with fail
  go_ret2;exact⟨none,0,0,rfl,q24 _,X⟩
theorem Told.Qbg {w:World}{p:Nat}{R:Int->Nd × Int}{root:Int}{its:List Qc}(h:Told w p R root its)(ht:Tab w)(k:Kd)(G:List UInt8 × Int)(hG:Gl (valOf its k)=G) :
  Calls Tryz.prog 17 #[.pointer (some ⟨p,0,none⟩),.int .i64 root,.agg #[.int .i64 k.obj,.int .i64 k.kind,.int .i64 k.off]] w λe w'=>∃A n c,e=.returned (.tuple #[.slice A n c,.int .i64 G.2])/\Sl w' A n c G.1/\(G.1≠[]->∀g,q01 A=some g->w.1.size<=g)/\Below w.1.size w w':=by
 have:=qtx h.src ht root k;rw[qjx h.tree h.Qd,hG] at this;exact this
section
variable {b:Nat}{w w':World}{d p:Nat}{U:Nat->Prop}{D:DM}{P:Pl}{H H0:List Int}{m:Nat}{g:Int}{root:Int}{its:List Qc}
theorem Ed.Vd (E:Ed b w d p U D P (Jr root) m g)(hT:Zb (P.store D) root its):P.C.n<=P.C.free+(P.C.first+(its.length+P.C.kept))/\P.C.used<=its.length:=by
 obtain⟨S0,C0,K⟩:=E.keep;rcases hT with⟨rfl,rfl⟩|⟨l,_,h,h1,_⟩
 ·have h1:=K.used (L:=[]) (λx u=>by cases u) (λa f=>by cases f);have h2:=qau P.C;have h1:P.C.used<=0:=h1;simp only[List.length_nil];omega
 ·rw[<-Nh] at h;have e:Jr root=[root]:=if_neg (by omega);rw[e] at K;have h1:=K.used (L:=[(l,root,its)]) (λx u=>by cases List.mem_singleton.1 u;exact h) (λa f=>⟨_,List.mem_singleton_self _,(List.mem_singleton.1 f).symm⟩);have h2:=qau P.C;have h1:P.C.used<=its.length+0:=h1;omega
theorem Ed.told (E:Ed b w d p U D P H m g)(hT:Zb (P.store D) root its)(hr:Qd its)(hl:its.length<=150):Told w p (P.store D) root its:=⟨E.src,hT,hr,hl⟩
end
theorem q9a (n:Nat)(hn:Qb n)(w:World)(X:Tab w) :
  Calls Tryz.prog 11 #[.int .i64 n] w λe w'=>∃p d U D,e=.returned (.pointer (some ⟨p,0,none⟩))/\Ed w.1.size w' d p U D (Pl.fresh n) [] 100 2/\Below w.1.size w w'/\(∀k,U k->w.1.size<=k):=by
 have hG:=X.1;have h1:32<=n:=hn.1;have h2:n<=2048:=hn.2;go_enter Tryz.func11,Tryz.ntmps11
 go_wp2_with fail
 refine (qxa n hn w).mono ?_;rintro e w1 ⟨d,rfl,W,I⟩;have Y:=X.below I hG;go_wp2_with fail
 refine (qhs W ⟨rfl,rfl⟩ (by omega) Y (qjk n) (by omega)).mono ?_;rintro e K ⟨p,q,rfl,u⟩;have G:(DM.mk0 n).n=n:=rfl;rw[G] at u;have y:=(q3c (Xt n) (qjk n)).mono (m':=100) (by have:=qxz (n:=n) h2;omega);have J:=qml h1 h2;obtain⟨R,E⟩:∃D,(DM.mk0 n).Qk (Xt n)=D:=⟨_,rfl⟩;rw[E] at u y J;obtain⟨P,O⟩:∃P,Pl.fresh n=P:=⟨_,rfl⟩;have hg:P.S.gen=1:=by rw[<-O];rfl
 rw[O] at u J;have B:=qxy (b:=w.1.size) u (λk f=>f) I.size;have t2:=Y.turned u.turn (by omega);have z1:=I.size;have M:Below w.1.size w K:=I.trans (u.turn.below (λk f=>f) z1);obtain⟨S0,S,B⟩:=B;obtain⟨T,Q⟩:∃T:Nat->Prop,(λk=>w.1.size<=k/\k<K.1.size)=T:=⟨_,rfl⟩;have F:∀k,T k->w.1.size<=k/\k<K.1.size:=λk f=>by rw[<-Q] at f;exact f
 rw[Q] at B;have Z:Ed w.1.size K d p T R P [] 100 2:=⟨⟨S0,S,T,B,B.sub,B.Cj⟩,F,t2,⟨_,_,J⟩,y,by omega⟩;clear u W Q E J y G;go_wp2_with fail
 go_ret;exact⟨p,d,T,R,rfl,O▸Z,M,λk f=>(F k f).1⟩
def edX:Qc:=⟨⟨1,1,0⟩,shB⟩
theorem qko:Ze edX:=⟨by decide,by decide,by decide⟩
theorem qaw {C e:Ct}(h:e.n=C.n):e.first=C.first:=by unfold Ct.first;rw[h]
theorem qep (n:Nat):(Pl.fresh n).C.n=n:=Ct.Q9 n
theorem q50 {b:Nat}{w w':World}{d p:Nat}{U:Nat->Prop}{D:DM}{P P':Pl}{r:Int}{H0:List Int}{its:List Qc}{m:Nat}{g:Int}(h:Bd b w w' d p U D P P' r H0 its m g):r=0↔its=[]:=by
 rcases h.tree with⟨rfl,rfl⟩|⟨l,_,e,h1,_⟩
 ·exact⟨λ_=>rfl,λ_=>rfl⟩
 ·constructor
  ·intro h;omega
  ·rintro rfl;obtain⟨x,t,h⟩:=q39 e
   cases h
theorem q83 (w:World)(ht:Tab w):Calls Tryz.prog 10 #[] w λe w'=>e=.returned (.bool true)/\Below w.1.size w w':=by
 have hG:=ht.1;have hM:=Lib.hid (q9a 64 ⟨by omega,by omega⟩ w ht);have J:=qep 64;have Z:(Pl.fresh 64).C.first=4:=by unfold Ct.first;rw[J];rfl
 have a1:(Pl.fresh 64).C.kept=0:=q6z 64;obtain⟨P,hP⟩:∃P,Pl.fresh 64=P:=⟨_,rfl⟩;rw[hP] at hM J Z a1;go_enter Tryz.func10,Tryz.ntmps10
 go_wp2_with fail
 refine hM.out.mono ?_;rintro e u ⟨p,d,U,D,rfl,E2,B2,hU⟩;clear hM;have K3:KB (u.alloc (.cells #[.int .i64 0,.int .i64 0,.int .i64 0] 30)) u.1.size ⟨0,0,0⟩:=KB.new u 0 0 0 _;have b3:Below u.1.size u (u.alloc (.cells #[.int .i64 0,.int .i64 0,.int .i64 0] 30)):=Qm;have kc:=λ(w:World) (C:Array Value) (n c:Nat)=>Lib.run_convert_bytes_const (P:=Tryz.prog) w 31 5 C n c Tryz.underlying31 Tryz.underlying5
 go_wp2_with (first
  |(refine q0x rfl (.tmp 2) (.tmp 14) rfl u.1.size rfl ⟨1,1,0⟩ _ rfl K3 ?_;intro F M T4;have c0:=M.c0;have c1:=M.c1;have c2:=M.c2)
  |fail)
 have y:Below u.1.size u F:=b3.trans (T4.below (λk hk=>by have hk:k=u.1.size:=hk;omega) b3.size);have E4:=E2.below y;have R:=B2.trans (y.mono B2.size);have B:∀k,U k->k<u.1.size:=λk hk=>(E2.low k hk).2
 clear K3 b3 T4;have b5:Below F.1.size F (F.alloc (.cells #[.int .u8 97,.int .u8 98] 5 (2,3))):=Qm;have s5:Sl (F.alloc (.cells #[.int .u8 97,.int .u8 98] 5 (2,3))) (some ⟨F.1.size,0,none⟩) 2 2 shB:=qvq F 5 (2,3) [97,98] #[.int .u8 97,.int .u8 98] rfl (by simp);have I:Zb (P.store D) 0 []:=.inl ⟨rfl,rfl⟩;have f:=(E4.Vd (root:=0) I).1;rw[J,Z,a1] at f;simp only[List.length_nil] at f;have z24:=y.size;have HP:=Lib.hid ((E4.below b5).put (root:=0) (H0:=[]) hG I List.Pairwise.nil (λx K=>by cases K) ⟨1,1,0⟩ shB qko (by simp) (by simp) _ 2 2 s5 (λ_ g hg b6=>by have:=B g b6;have hg:F.1.size=g:=Option.some.inj hg;omega));have K5:=M.below b5 M.lt;have T:=R.trans (b5.mono R.size);go_wp2_with fail
 refine HP.out.mono ?_;rintro e w6 (⟨r,P6,rfl,G⟩|⟨_,hf,_⟩)
 case inr=>omega
 have E:=q50 G;have z26:u.1.size<=w6.1.size:=Nat.le_trans (y.trans (b5.mono y.size)).size G.turn.size;have E:r≠0:=λh=>by have:=E.1 h;cases this
 have X6:=G.turn;have W:Below w.1.size w w6:=T.trans (X6.below hU T.size);have O:KB w6 u.1.size ⟨1,1,0⟩:=K5.keep (X6.block _ K5.lt λh=>by have:=B _ h;omega);have a7:=O.c0;have a8:=O.c1;have b0:=O.c2;have E6:=G.ed;have a6:=G.free;have T6:Zb (P6.store D) r [edX]:=G.tree;have a2:Qd [edX]:=List.pairwise_singleton ..;have Hg:=Lib.hid ((E6.told T6 a2 (by simp)).Qbg E6.tab ⟨1,1,0⟩ (shB,0) rfl);clear c0 c1 c2 M K5 HP G s5 I kc;go_wp2_with fail
 refine Hg.out.mono ?_;rintro e w7 ⟨A7,n7,d7,rfl,s7,c6,b7⟩;have E7:=E6.below b7;have Q:=O.below b7 O.lt;have X:=W.trans (b7.mono W.size);have b1:=Q.c0;have b2:=Q.c1;have b4:=Q.c2;have HD:=Lib.hid (E7.del (root:=r) (H0:=[]) hG T6 a2 (λx K=>by cases List.mem_singleton.1 K;exact qko) ⟨1,1,0⟩ (by simp) (by simp) ⟨edX,List.mem_singleton_self _,by decide⟩);clear a7 a8 b0 O Hg E6 X6;go_wp2_with fail
 refine HD.out.mono ?_;rintro e w8 (⟨r8,P8,rfl,N8⟩|⟨_,hf,_⟩)
 case inr=>omega
 have b8:r8=0:=(q50 N8).2 (by decide);subst b8;have X8:=N8.turn;have Y:Below w.1.size w w8:=X.trans (X8.below hU X.size);have K8:KB w8 u.1.size ⟨1,1,0⟩:=Q.keep (X8.block _ Q.lt λh=>by have:=B _ h;omega);have s8:Sl w8 A7 n7 d7 shB:=s7.turned' X8 λh1 g hg h=>by have:=c6 h1 g hg;have:=B _ h;have:=z26;omega
 have c7:=K8.c0;have c8:=K8.c1;have c9:=K8.c2;have E8:=N8.ed;have HN:=Lib.hid (E8.Qaz (root:=0) (H0:=[]) (its:=[]) hG (.inl ⟨rfl,rfl⟩) List.Pairwise.nil (λx K=>by cases K) ⟨1,1,0⟩ (by simp) (by simp) (λ⟨x,K,_⟩=>by cases K));clear b1 b2 b4 Q HD N8 X8;go_wp2_with fail
 refine HN.out.mono ?_;rintro e w9 ⟨rfl,b9⟩;have s9:=s8.below b9;have d0:=Pg s9;have h3:(r != 0)=true:=by simpa using E
 have h4:decide (r=0)=false:=by simpa using E
 clear HN;go_wp2_with fail
 go_ret;exact⟨rfl,Y.trans (b9.mono Y.size)⟩
def FU (U:Nat->Prop)(V:Option Addr)(v:List UInt8):Prop:=v≠[]->∀g,q01 V=some g->¬U g
structure J8 (U:Nat->Prop)(w:World)(A:Option Addr)(n c:Nat)(xs:List Qc):Prop where
 row:Zg (FU U) w A n c xs
 blk:xs≠[]->∀g,q01 A=some g->¬U g
section
variable {U:Nat->Prop}{w w':World}{A:Option Addr}{n c:Nat}{xs:List Qc}
theorem q3s {F y:Option Addr->List UInt8->Prop}(h:Zg F w A n c xs)(hF:∀V p q v,Sl w V p q v->F V v->y V v):Zg y w A n c xs:=by
 obtain⟨u,h1,h2,B⟩:=h;refine⟨u,h1,h2,λj r x E G=>?_⟩;obtain⟨V,p,q,e,f⟩:=B j r x E G;exact⟨V,p,q,e,f.1,hF _ _ _ _ f.1 f.2⟩
theorem J8.Zq (h:J8 U w A n c xs):Zl w A n c xs:=h.row.Zq
theorem J8.len (h:J8 U w A n c xs):xs.length=n:=h.row.Zq.len
theorem J8.below (h:J8 U w A n c xs)(hb:Below w.1.size w w'):J8 U w' A n c xs:=⟨h.row.below hb,h.blk⟩
theorem J8.Qbz (h:J8 U w A n c xs)(hx:xs≠[]):∀g,q01 A=some g->g<w.1.size:=λg f=>by
 have y:=h.len;obtain⟨b,o,V,p,q,rfl,u,_⟩:=h.row.cell (j:=0) (by have:xs.length≠0:=λe=>hx (List.eq_nil_of_length_eq_zero e);omega);have e:b=g:=Option.some.inj f;omega
theorem J8.turned (h:J8 U w A n c xs)(T:Turn U w w'):J8 U w' A n c xs:=by
 by_cases f:xs=[]
 ·subst f;obtain⟨e,h1,h2,E⟩:=h.row;obtain rfl:e=[]:=List.eq_nil_of_length_eq_zero h2;exact⟨⟨[],⟨h1.1,h1.2.1,h1.2.2.1,λj x u=>by simp at u⟩,rfl,λj r x y=>by simp at y⟩,λh=>absurd rfl h⟩
 ·exact⟨h.row.turned T (h.blk f) λV v B=>B,h.blk⟩
theorem J8.commit (h:J8 U w A n c xs)(T:Turn U w w'):J8 (grow U w w') w' A n c xs:=by
 have h2:=h.turned T;have F:Zg (λV v=>FU U V v/\(v≠[]->∀g,q01 V=some g->g<w.1.size)) w A n c xs:=q3s h.row λV p q v J y=>⟨y,λe=>J.Qa e⟩
 refine⟨?_,λu g f B=>?_⟩
 ·by_cases u:xs=[]
  ·subst u;obtain⟨G,h1,h2,I⟩:=h2.row;obtain rfl:G=[]:=List.eq_nil_of_length_eq_zero h2;exact⟨[],h1,rfl,λj r x K=>by simp at K⟩
  ·have I:Zg _ w' A n c xs:=F.turned T (h.blk u) λV v e=>e.1
   exact q3s I λV p q v J y e g f B=>B.1.elim (y.1 e g f) λE=>by have:=y.2 e g f;omega
 ·have:=h.Qbz u g f;exact B.1.elim (h.blk u g f) λE=>by omega
theorem qqx {b:Nat}(u:∀k,U k->k<b)(h:Zg (FU U) w A n c xs)(f:∀g,q01 A=some g->b<=g):J8 U w A n c xs:=
 ⟨h,λ_ g y e=>by have:=f g y;have:=u g e;omega⟩
theorem J8.cell (h:J8 U w A n c xs){j:Nat}(hj:j<n):∃b o V p q,A=some ⟨b,o,none⟩/\b<w.1.size/\¬U b/\w.cell? ⟨b,o+j*4,none⟩=some (.int .i64 (Qj xs j).k.obj)/\w.cell? ⟨b,o+j*4+1,none⟩=some (.int .i64 (Qj xs j).k.kind)/\w.cell? ⟨b,o+j*4+2,none⟩=some (.int .i64 (Qj xs j).k.off)/\w.cell? ⟨b,o+j*4+3,none⟩=some (.slice V p q)/\Sl w V p q (Qj xs j).v/\((Qj xs j).v≠[]->∀g,q01 V=some g->¬U g):=by
 have f:=h.len;have B:xs≠[]:=λe=>by rw[e] at f;simp at f;omega
 obtain⟨b,o,V,p,q,rfl,y,c0,c1,c2,c3,u⟩:=h.row.cell hj;exact⟨b,o,V,p,q,rfl,y,h.blk B _ rfl,c0,c1,c2,c3,u.1,u.2⟩
end
theorem q84 (v:List UInt8):(Zd v).length=v.length:=by unfold Zd;split<;>simp
theorem q8s (k:Kd)(v:List UInt8):Ko ⟨k,Zd v⟩=none:=by
 unfold Ko;refine if_neg λ⟨_,h1,h2⟩=>?_
 have h1:(Zd v).length=3:=h1;have h2:Wh (Zd v) 0=1:=h2;rw[q84] at h1;unfold Zd at h2;by_cases e:Wh v 0=1
 ·rw[if_pos ⟨h1,e⟩] at h2;have:Wh (v.set 0 2) 0=2:=by
   match v,h1 with
   |[a,b,c],_=>rfl
  omega
 ·rw[if_neg λh=>e h.2] at h2;exact e h2
section
variable {b:Nat}{w w':World}{d p:Nat}{U:Nat->Prop}{D:DM}{P:Pl}{H H0:List Int}{m:Nat}{g:Int}{root:Int}{its:List Qc}
theorem Ed.nil (E:Ed b w d p U D P (H++[]) m g):Ed b w d p U D P H m g:=by
 rw[List.append_nil] at E;exact E
theorem Ed.Ey (E:Ed b w d p U D P (Jr root++H0) m g)(hb:1<b)(hT:Zb (P.store D) root its)(hr:Qd its)(hf:∀x∈its,Ze x)(k:Kd)(v:List UInt8)(hx:Ze ⟨k,v⟩)(hfew:its.length<1000)(hH0:H0.length<=10000)(V:Option Addr)(q c:Nat)(hV:Sl w V q c v)(hVU:v≠[]->∀g,q01 V=some g->¬U g)(hfree:17<=P.C.free)(its':List Qc)(hi:Zo k v false its=its') :
  Calls Tryz.prog 30 #[.pointer (some ⟨p,0,none⟩),.int .i64 root,.agg #[.int .i64 k.obj,.int .i64 k.kind,.int .i64 k.off],.slice V q c] w λe w'=>∃r f,e=.returned (.tuple #[.int .i64 r,.int .i64 0])/\Bd b w w' d p U D P f r H0 its' m g:=by
 subst hi;refine (E.put hb hT hr hf k v hx hfew hH0 V q c hV hVU).mono ?_;rintro e w' (⟨r,f,rfl,N⟩|⟨_,h,_⟩)
 ·exact⟨r,f,rfl,N⟩
 ·omega
theorem Ed.Ti (E:Ed b w d p U D P (Jr root++H0) m g)(hb:1<b)(hT:Zb (P.store D) root its)(hr:Qd its)(hf:∀x∈its,Ze x)(k:Kd)(hfew:its.length<1000)(hH0:H0.length<=10000)(hk:∃x∈its,x.k.same k=true)(hfree:17<=P.C.free)(its':List Qc)(hi:Jv k its=its') :
  Calls Tryz.prog 31 #[.pointer (some ⟨p,0,none⟩),.int .i64 root,.agg #[.int .i64 k.obj,.int .i64 k.kind,.int .i64 k.off]] w λe w'=>∃r f,e=.returned (.tuple #[.int .i64 r,.int .i64 0])/\Bd b w w' d p U D P f r H0 its' m g:=by
 subst hi;refine (E.del hb hT hr hf k hfew hH0 hk).mono ?_;rintro e w' (⟨r,f,rfl,N⟩|⟨_,h,_⟩)
 ·exact⟨r,f,rfl,N⟩
 ·omega
end
theorem q70 {U:Nat->Prop}{w:World}{base n c:Nat}{e:TypeId}{A:Option Addr}{l:List UInt8}(h:Own w base e A n c l)(y:∀k,U k->k<base):∀g,q01 A=some g->¬U g:=λg u f=>by
 have h1:=y g f
 cases A with
 |none=>cases u
 |some ad=>
  have h2:=h.block ad rfl;have B:ad.block=g:=Option.some.inj u;omega
