/- Directories as plain data: rows of entries by their numbers; what looking, adding, removin -/
import Derived.Test.YtnjacafcocnicaaGreatDoorDv31
import Derived.Lib.Strings
import Derived.Lib.Bytealg
import Derived.Sort.Statements
namespace Go.Proofs.YtnjacafcocnicaaGreatDoor
open Go Go.RowKit Go.Proofs Tryz
set_option maxHeartbeats 4000000
set_option maxRecDepth 10000
def eqS (s t:ByteArray):Bool:=s.toList==t.toList
theorem Nz (s t:ByteArray):eqS s t=true↔s=t:=by
 unfold eqS;rw[beq_iff_eq,Lib.toList_data,Lib.toList_data,Array.toList_inj];exact⟨λh=>ByteArray.ext h,λh=>h▸rfl⟩
theorem qyz {s t:ByteArray}(h:s≠t):eqS s t=false:=by
 cases e:eqS s t with
 |false=>rfl
 |true=>exact absurd ((Nz _ _).1 e) h
abbrev De:=Int × Qm
def X0 (i:Int)(x:De):Qc:=⟨⟨i,2,x.1⟩,x.2.bytes⟩
def Qe (i:Int)(L:List De):List Qc:=L.map (X0 i)
theorem Ny (i:Int)(L:List De):(Qe i L).length=L.length:=by simp[Qe]
structure Ji (L:List De)(lim:Int):Prop where
 off:L.Pairwise λx y=>x.1<y.1
 low:∀x∈L,0<=x.1/\x.1<lim
 may:∀x∈L,x.2.may=true
 name:L.Pairwise λx y=>x.2.name≠y.2.name
theorem qmd (lim:Int):Ji [] lim:=⟨List.Pairwise.nil,λ_ h=>absurd h List.not_mem_nil,λ_ h=>absurd h List.not_mem_nil,List.Pairwise.nil⟩
section
variable {L:List De}{lim:Int}{i:Int}{A C:List Qc}{n:ByteArray}{x:De}
def J7 (n:ByteArray)(L:List De):Option De:=L.foldl (λa x=>if eqS x.2.name n=true then some x else a) none
def Yn (L:List De):Int:=L.foldl (λ_ x=>x.1+1) 0
def Wp (n:ByteArray)(L:List De):Bool:=L.any λx=>eqS x.2.name n
theorem q8d (n:ByteArray)(L:List De)(x:De):J7 n (L++[x])=if eqS x.2.name n=true then some x else J7 n L:=by unfold J7;rw[List.foldl_append];rfl
theorem qdl (L:List De)(x:De):Yn (L++[x])=x.1+1:=by unfold Yn;rw[List.foldl_append];rfl
theorem qb9 (n:ByteArray)(L:List De)(x:De):Wp n (L++[x])=(Wp n L||eqS x.2.name n):=by unfold Wp;rw[List.any_append];simp
theorem qhk (n:ByteArray):∀(r L:List De),L=r.reverse->(J7 n L=none/\Wp n L=false/\∀x∈L,x.2.name≠n)\/∃x∈L,J7 n L=some x/\Wp n L=true/\x.2.name=n
 |[],_,h=>by
  subst h;exact .inl ⟨rfl,rfl,λx m=>by cases m⟩
 |y::r,_,h=>by
  subst h;rw[List.reverse_cons,q8d,qb9]
  cases f:eqS y.2.name n with
  |true=>exact .inr ⟨y,AU _ (List.mem_singleton.2 rfl),by rw[AA rfl],by rw[Bool.or_true],(Nz _ _).1 f⟩
  |false=>
   rw[AB Bool.false_ne_true,Bool.or_false];rcases qhk n r _ rfl with⟨h1,h2,e⟩|⟨x,h1,h2,e,p⟩
   ·refine .inl ⟨h1,h2,λx m=>?_⟩;rcases List.mem_append.1 m with h|h
    ·exact e x h
    ·rw[List.mem_singleton.1 h];intro q;rw[(Nz _ _).2 q] at f
     cases f
   ·exact .inr ⟨x,List.mem_append_left _ h1,h2,e,p⟩
theorem q1u (n:ByteArray)(L:List De):(J7 n L=none/\Wp n L=false/\∀x∈L,x.2.name≠n)\/∃x∈L,J7 n L=some x/\Wp n L=true/\x.2.name=n:=qhk n L.reverse L (by simp)
theorem Ji.filter (h:Ji L lim)(f:De->Bool):Ji (L.filter f) lim:=⟨h.off.filter f,λy e=>h.low y (List.mem_filter.1 e).1,λy e=>h.may y (List.mem_filter.1 e).1,h.name.filter f⟩
theorem Ji.wider (h:Ji L lim){l2:Int}(hl:lim<=l2):Ji L l2:=⟨h.off,λx e=>⟨(h.low x e).1,by have:=(h.low x e).2;omega⟩,h.may,h.name⟩
theorem qwn:∀(r L:List De),L=r.reverse->Ji L lim->0<=lim->0<=Yn L/\Yn L<=lim/\∀x∈L,x.1<Yn L
 |[],_,h,_,h0=>by
  subst h;exact⟨Int.le_refl 0,h0,λx e=>by cases e⟩
 |y::r,_,h,hd,h0=>by
  subst h;rw[List.reverse_cons] at hd ⊢;rw[qdl];have h1:=hd.low y (AU _ (List.mem_singleton.2 rfl));refine⟨by omega,by omega,λx e=>?_⟩;rcases List.mem_append.1 e with h|h
  ·have:=(List.pairwise_append.1 hd.off).2.2 x h y (List.mem_singleton.2 rfl);omega
  ·rw[List.mem_singleton.1 h];omega
theorem Ji.next (h:Ji L lim)(h0:0<=lim):0<=Yn L/\Yn L<=lim/\∀x∈L,x.1<Yn L:=qwn L.reverse L (by simp) h h0
theorem Ji.snoc (h:Ji L lim)(h0:0<=lim){e:Qm}(he:e.may=true)(hn:∀x∈L,x.2.name≠e.name):Ji (L++[(Yn L,e)]) (lim+1):=by
 obtain⟨a,b,c⟩:=h.next h0;refine⟨List.pairwise_append.2 ⟨h.off,List.pairwise_singleton ..,λx f y m=>?_⟩,λx f=>?_,λx f=>?_,List.pairwise_append.2 ⟨h.name,List.pairwise_singleton ..,λx f y m=>?_⟩⟩
 ·rw[List.mem_singleton.1 m];exact c x f
 ·rcases List.mem_append.1 f with f|f
  ·have:=h.low x f;omega
  ·rw[List.mem_singleton.1 f];dsimp only;omega
 ·rcases List.mem_append.1 f with f|f
  ·exact h.may x f
  ·rw[List.mem_singleton.1 f];exact he
 ·rw[List.mem_singleton.1 m];exact hn x f
theorem Ji.one (h:Ji L lim){x y:De}(hx:x∈L)(hy:y∈L)(hn:x.2.name=y.2.name):x=y:=by
 obtain⟨i,hi,rfl⟩:=List.mem_iff_getElem.1 hx;obtain⟨j,e,rfl⟩:=List.mem_iff_getElem.1 hy;have f:=List.pairwise_iff_getElem.1 h.name;rcases Nat.lt_trichotomy i j with h1|h1|h1
 ·exact absurd hn (f i j hi e h1)
 ·subst h1;rfl
 ·exact absurd hn.symm (f j i e hi h1)
theorem Ji.Qas (h:Ji L lim){x y:De}(hx:x∈L)(hy:y∈L)(hn:x.1=y.1):x=y:=by
 obtain⟨i,hi,rfl⟩:=List.mem_iff_getElem.1 hx;obtain⟨j,e,rfl⟩:=List.mem_iff_getElem.1 hy;have f:=List.pairwise_iff_getElem.1 h.off;rcases Nat.lt_trichotomy i j with h1|h1|h1
 ·have:=f i j hi e h1;omega
 ·subst h1;rfl
 ·have:=f j i e hi h1;omega
def Vj (e:Qm)(L:List De):List De:=L.map λx=>if eqS x.2.name e.name=true then (x.1,e) else x
theorem qsi (e:Qm)(L:List De):(Vj e L).map (·.1)=L.map (·.1):=by
 unfold Vj;rw[List.map_map];refine List.map_congr_left λx f=>?_
 show (if eqS x.2.name e.name=true then (x.1,e) else x).1=x.1;split<;>rfl
theorem qos (e:Qm)(L:List De):(Vj e L).map (·.2.name)=L.map (·.2.name):=by
 unfold Vj;rw[List.map_map];refine List.map_congr_left λx f=>?_
 show (if eqS x.2.name e.name=true then (x.1,e) else x).2.name=x.2.name;split
 ·next h=>exact ((Nz _ _).1 h).symm
 ·rfl
theorem Ji.swap (h:Ji L lim){e:Qm}(he:e.may=true):Ji (Vj e L) lim:=by
 have p:=List.pairwise_map.2 h.off;have hn:(L.map (·.2.name)).Pairwise (·≠·):=List.pairwise_map.2 h.name;rw[show (L.map λx=>x.1)=(Vj e L).map (·.1) from (qsi e L).symm] at p;rw[<-qos e L] at hn;have hm:∀x∈Vj e L,∃y∈L,x.1=y.1/\(x=(y.1,e)\/x=y):=λx f=>by
  obtain⟨y,m,rfl⟩:=List.mem_map.1 f;refine⟨y,m,?_⟩;split
  ·exact⟨rfl,.inl rfl⟩
  ·exact⟨rfl,.inr rfl⟩
 refine⟨List.pairwise_map.1 p,λx f=>?_,λx f=>?_,List.pairwise_map.1 hn⟩
 ·obtain⟨y,m,q,_⟩:=hm x f;rw[q];exact h.low y m
 ·obtain⟨y,m,_,rfl|rfl⟩:=hm x f
  ·exact he
  ·exact h.may _ m
structure Ctx (i:Int)(A C:List Qc):Prop where
 one:0<=i/\i<=2147483647
 lo:∀x∈A,x.k.obj<i
 hi:∀x∈C,i<x.k.obj
 ra:Qo A
 rc:Qo C
 fa:∀x∈A,Zx x
 fc:∀x∈C,Zx x
theorem qot (hi:0<=i/\i<=2147483647)(h:Ji L lim)(m:lim<=2147483648)(e:x∈L):Zx (X0 i x):=by
 have h1:=h.low x e;have h2:=(Bool.and_eq_true_iff.1 (h.may x e)).1;have f:=AK h2;refine⟨(Kd.Cc _).2 ⟨hi,⟨by show (0:Int)<=2;omega,by show (2:Int)<=255;omega⟩,h1.1,by show x.1<=2147483647;omega⟩,?_⟩;show x.2.bytes.length<=28;rw[q8q];omega
theorem q28 {y:Qc}(h:y∈Qe i L):∃x∈L,y=X0 i x:=by
 obtain⟨x,e,rfl⟩:=List.mem_map.1 h;exact⟨x,e,rfl⟩
theorem q9c (h:Ji L lim):Qo (Qe i L):=by
 refine List.pairwise_map.2 (h.off.imp ?_);intro x y e;exact (Kd.Xl _ _).2 (.inr ⟨rfl,.inr ⟨rfl,e⟩⟩)
theorem q20 {a b:Kd}(h:a.obj<b.obj):a.less b=true:=(Kd.Xl _ _).2 (.inl h)
theorem Ctx.Qo (X:Ctx i A C)(h:Ji L lim):Qo (A++(Qe i L++C)):=by
 refine List.pairwise_append.2 ⟨X.ra,List.pairwise_append.2 ⟨q9c h,X.rc,λa f b e=>?_⟩,λa f b e=>?_⟩
 ·obtain⟨x,_,rfl⟩:=q28 f;exact q20 (X.hi b e)
 ·rcases List.mem_append.1 e with e|e
  ·obtain⟨x,_,rfl⟩:=q28 e;exact q20 (X.lo a f)
  ·exact q20 (by have:=X.lo a f;have:=X.hi b e;omega)
theorem Ctx.fine (X:Ctx i A C)(h:Ji L lim)(hl:lim<=2147483648):∀x∈A++(Qe i L++C),Zx x:=λx e=>by
 rcases List.mem_append.1 e with e|e
 ·exact X.fa x e
 rcases List.mem_append.1 e with e|e
 ·obtain⟨y,f,rfl⟩:=q28 e;exact qot X.one h hl f
 ·exact X.fc x e
theorem Ctx.within (X:Ctx i A C)(h:Ji L lim)(hl:lim<=2147483648):within ⟨i,2,0⟩ ⟨i,2,2147483647⟩ (A++(Qe i L++C))=Qe i L:=by
 unfold Go.Proofs.YtnjacafcocnicaaGreatDoor.within;rw[List.filter_append,List.filter_append,List.filter_eq_nil_iff.2 λx e=>?_,List.filter_eq_self.2 λx e=>?_,List.filter_eq_nil_iff.2 λx e=>?_,BG,BM]
 ·have:(⟨i,2,2147483647⟩:Kd).less x.k=true:=q20 (X.hi x e);rw[this];simp
 ·obtain⟨y,q,rfl⟩:=q28 e;have h1:=h.low y q;have m:(X0 i y).k.less ⟨i,2,0⟩=false:=by
   cases f:(X0 i y).k.less ⟨i,2,0⟩ with
   |false=>rfl
   |true=>have:=(Kd.Xl _ _).1 f;simp only[X0] at this;omega
  have p:(⟨i,2,2147483647⟩:Kd).less (X0 i y).k=false:=by
   cases f:(⟨i,2,2147483647⟩:Kd).less (X0 i y).k with
   |false=>rfl
   |true=>have:=(Kd.Xl _ _).1 f;simp only[X0] at this;omega
  rw[m,p];rfl
 ·have:x.k.less ⟨i,2,0⟩=true:=q20 (X.lo x e);rw[this];simp
theorem qsj {k:Kd}{v:LU}:∀{l:List Qc},(∀x∈l,x.k.less k=true)->Yh k v false l=l++[⟨k,v⟩]
 |[],_=>by simp[Yh]
 |x::r,h=>by
  have h1:=(Kd.Xl _ _).1 (h x (AP ..));have h2:x.k.same k=false:=by
   cases e:x.k.same k with
   |false=>rfl
   |true=>have:=(Kd.same_iff _ _).1 e;omega
  have f:k.less x.k=false:=by
   cases e:k.less x.k with
   |false=>rfl
   |true=>have:=(Kd.Xl _ _).1 e;omega
  rw[Yh,h2,f,Bool.or_self,Bool.and_false,Bool.or_self,qsj λy m=>h y (AO _ m)];simp
theorem Ctx.Qb4 (X:Ctx i A C)(h:Ji L lim)(h0:0<=lim)(e:Qm):Yh ⟨i,2,Yn L⟩ e.bytes false (A++(Qe i L++C))=A++(Qe i (L++[(Yn L,e)])++C):=by
 rw[qf2 (λx f=>q20 (X.lo x f)) (λx f=>q20 (X.hi x f)) (X.Qo h),qsj λx f=>?_]
 ·unfold Qe;rw[List.map_append];rfl
 ·obtain⟨y,m,rfl⟩:=q28 f;exact (Kd.Xl _ _).2 (.inr ⟨rfl,.inr ⟨rfl,(h.next h0).2.2 y m⟩⟩)
theorem qhl {k:Kd}{v:LU}:∀{l:List Qc},Qo l->(∃x∈l,x.k=k)->Yh k v false l=l.map λx=>if x.k.same k=true then ⟨k,v⟩ else x
 |[],_,⟨x,hx,_⟩=>by cases hx
 |x::r,hr,hx=>by
  obtain⟨h1,h2⟩:=List.pairwise_cons.1 hr;by_cases p:x.k=k
  ·have q:x.k.same k=true:=(Kd.same_iff _ _).2 ⟨by rw[p],by rw[p],by rw[p]⟩;have e:∀y∈r,y.k.same k=false:=λy u=>by
    have D:=(Kd.Xl _ _).1 (h1 y u);rw[p] at D
    cases m:y.k.same k with
    |false=>rfl
    |true=>have:=(Kd.same_iff _ _).1 m;omega
   rw[Yh,q,Bool.or_true,Bool.or_true,q6v k v r e,BJ,AA q];rw[show (r.map λx=>if x.k.same k=true then (⟨k,v⟩:Qc) else x)=r from (List.map_congr_left λy u=>by rw[e y u];rfl).trans (List.map_id' r)];simp
  ·obtain⟨y,u,f⟩:=hx;have B:y∈r:=by
    rcases List.mem_cons.1 u with rfl|h
    ·exact absurd f p
    ·exact h
   have D:=(Kd.Xl _ _).1 (h1 y B);rw[f] at D;have q:x.k.same k=false:=by
    cases m:x.k.same k with
    |false=>rfl
    |true=>have:=(Kd.same_iff _ _).1 m;omega
   have E:k.less x.k=false:=by
    cases m:k.less x.k with
    |false=>rfl
    |true=>have:=(Kd.Xl _ _).1 m;omega
   rw[Yh,q,E,Bool.or_self,Bool.and_false,Bool.or_self,qhl h2 ⟨y,B,f⟩,BJ,q];simp
theorem Ctx.Qb5 (X:Ctx i A C)(h:Ji L lim){e:Qm}(f:x∈L)(hn:x.2.name=e.name):Yh ⟨i,2,x.1⟩ e.bytes false (A++(Qe i L++C))=A++(Qe i (Vj e L)++C):=by
 rw[qf2 (λx f=>q20 (X.lo x f)) (λx f=>q20 (X.hi x f)) (X.Qo h),qhl (k:=⟨i,2,x.1⟩) (q9c h) ⟨X0 i x,List.mem_map.2 ⟨x,f,rfl⟩,rfl⟩];unfold Qe Vj;rw[List.map_map,List.map_map];congr 2
 refine List.map_congr_left λy q=>?_
 show (if (X0 i y).k.same ⟨i,2,x.1⟩=true then (⟨⟨i,2,x.1⟩,e.bytes⟩:Qc) else X0 i y)=X0 i (if eqS y.2.name e.name=true then (y.1,e) else y);by_cases m:eqS y.2.name e.name=true
 ·have p:y=x:=h.one q f (((Nz _ _).1 m).trans hn.symm);subst p;have u:(X0 i y).k.same ⟨i,2,y.1⟩=true:=(Kd.same_iff _ _).2 ⟨rfl,rfl,rfl⟩;rw[AA m,AA u];rfl
 ·rw[AB m,AB λB=>?_];have p:y=x:=h.Qas q f ((Kd.same_iff _ _).1 B).2.2;exact m ((Nz _ _).2 (by rw[p];exact hn))
def Gl (n:ByteArray)(L:List De):List De:=L.filter λx=>!eqS x.2.name n
theorem Ctx.del (X:Ctx i A C)(h:Ji L lim)(e:x∈L)(hn:x.2.name=n):U2 ⟨i,2,x.1⟩ (A++(Qe i L++C))=A++(Qe i (Gl n L)++C):=by
 rw[qse (λx e=>q20 (X.lo x e)) (λx e=>q20 (X.hi x e))];unfold U2 Qe Gl;rw[List.filter_map];congr 3
 refine List.filter_congr λy p=>?_
 show (!(X0 i y).k.same ⟨i,2,x.1⟩)=!eqS y.2.name n;congr 1
 by_cases f:eqS y.2.name n=true
 ·have m:y=x:=h.one p e (((Nz _ _).1 f).trans hn.symm);rw[f];exact (Kd.same_iff _ _).2 ⟨rfl,rfl,by rw[m];rfl⟩
 ·rw[Bool.eq_false_iff.2 f];refine Bool.eq_false_iff.2 λq=>?_
  have m:y=x:=h.Qas p e ((Kd.same_iff _ _).1 q).2.2;exact f ((Nz _ _).2 (by rw[m];exact hn))
theorem Ctx.has (hx:x∈L):∃y∈A++(Qe i L++C),y.k.same ⟨i,2,x.1⟩=true:=
 ⟨X0 i x,AU _ (List.mem_append_left _ (List.mem_map.2 ⟨x,hx,rfl⟩)),(Kd.same_iff _ _).2 ⟨rfl,rfl,rfl⟩⟩
end
def J5 (L:List De):List Qm:=L.map (·.2)
theorem q2u (L:List De):(J5 L).length=L.length:=by simp[J5]
def Yi (n:ByteArray)(l:List Qm):Option Qm:=l.find? λx=>eqS x.name n
theorem q9y {L:List De}{lim:Int}(h:Ji L lim)(n:ByteArray):Yi n (J5 L)=(J7 n L).map (·.2):=by
 unfold Yi J5;rw[List.find?_map];rcases q1u n L with⟨h1,_,q⟩|⟨x,p,h1,_,m⟩
 ·have e:L.find? ((λx=>eqS x.name n) ∘ λx=>x.2)=none:=List.find?_eq_none.2 λy E D=>q y E ((Nz _ _).1 D)
  rw[h1,e]
 ·rw[h1]
  cases f:L.find? ((λx=>eqS x.name n) ∘ λx=>x.2) with
  |none=>exact absurd ((Nz _ _).2 m) (List.find?_eq_none.1 f x p)
  |some y=>
   have u:=List.find?_some f;have B:=List.mem_of_find?_eq_some f;rw[h.one B p (((Nz _ _).1 u).trans m.symm)]
theorem qme (L:List De)(o:Int)(e:Qm):J5 (L++[(o,e)])=J5 L++[e]:=by simp[J5]
def Gx (n:ByteArray)(l:List Qm):List Qm:=l.filter λx=>!eqS x.name n
theorem qmf (n:ByteArray)(L:List De):J5 (Gl n L)=Gx n (J5 L):=by
 unfold J5 Gl Gx;rw[List.filter_map];rfl
def Y4 (e:Qm)(l:List Qm):List Qm:=l.map λx=>if eqS x.name e.name=true then e else x
theorem qmg (e:Qm)(L:List De):J5 (Vj e L)=Y4 e (J5 L):=by
 unfold J5 Vj Y4;rw[List.map_map,List.map_map];refine List.map_congr_left λx f=>?_
 show (if eqS x.2.name e.name=true then (x.1,e) else x).2=if eqS x.2.name e.name=true then e else x.2
 split<;>rfl
theorem qwo {L:List De}(n:ByteArray)(h:∀x∈L,x.2.name≠n):Gl n L=L:=List.filter_eq_self.2 λx e=>by rw[qyz (h x e)];rfl
theorem qsk {L:List De}{n:ByteArray}{x:De}(f:x∈L)(hn:x.2.name=n):(Gl n L).length<L.length:=by
 refine Nat.lt_of_le_of_ne (List.length_filter_le _ _) λe=>?_
 have:=List.length_filter_eq_length_iff.1 e x f;rw[(Nz _ _).2 hn] at this
 cases this
def lkE (o:Option Qm):Qm:=o.getD Qm.zero
def lkC (o:Option Qm):Int:=if o.isSome=true then 0 else 10
theorem qba {n:ByteArray}{l:List Qm}{j:Nat}(e:j<l.length)(h:Yi n (l.take j)=none):Yi n (l.take (j+1))=if eqS (Zm l j).name n=true then some (Zm l j) else none:=by
 rw[List.take_add_one,q1y e];unfold Yi at h ⊢;rw[List.find?_append,h];show none.or (List.find? _ [Zm l j])=_;rw[Option.none_or,List.find?_singleton]
theorem qhm {n:ByteArray}{l:List Qm}{j:Nat}(f:j<l.length)(h:Yi n (l.take j)=none)(e:eqS (Zm l j).name n=true):Yi n l=some (Zm l j):=by
 have h1:=qba f h;rw[AA e] at h1;have h2:Yi n (l.take (j+1)++l.drop (j+1))=some (Zm l j):=by
  unfold Yi at h1 ⊢;rw[List.find?_append,h1,Option.some_or]
 rwa [AV] at h2
theorem q4z (A:OA)(n c:Nat)(l:List Qm)(nm:ByteArray)(w:WD)(h:Zg w A n c l)(F:Option Qm)(hF:Yi nm l=F) :
  Calls prog 24 #[.slice A n c,.string nm] w λe V=>e=.returned (.tuple #[.agg #[.string (lkE F).name,.int .i64 (lkE F).ino,.int .i64 (lkE F).kind],.int .i64 (lkC F)])/\Below w.1.size w V:=by
 have K:IB (w.alloc (.cells #[.string ⟨#[]⟩,.int .i64 0,.int .i64 0] 32)) w.1.size Qm.zero.vs:=IB.new w _ _;have M:Below w.1.size w (w.alloc (.cells #[.string ⟨#[]⟩,.int .i64 0,.int .i64 0] 32)):=Qi;have hl:=h.len;obtain⟨P,I⟩:=h.bounds;unfold maxLen at I;have J:=HI hF;clear hF;go_enter func24,ntmps24
 go_wp2_with fail
 go_loopw [6] (λs wr=>∃j:Nat,j<=n/\s=.int .i64 (j:Int)/\Yi nm (l.take j)=none/\IB wr w.1.size Qm.zero.vs/\Below w.1.size w wr) (λs _=>n-(intOf s).toNat)
 case atStart=>exact⟨0,AW _,rfl,rfl,K,M⟩
 case round=>
  clear K M;obtain⟨j,Z,rfl,f,R,B⟩:=hrel;have O:Zg wr A n c l:=h.below B;have l0:=R.lt;have r0:=R.cell 0 rfl;have r1:=R.cell 1 rfl;have r2:=R.cell 2 rfl;have q0:=R.fz 0;have q1:=R.fz 1;have q2:=R.fz 2;have fin:∀x:Qm,IB (wr.setCells w.1.size 0 x.vs) w.1.size x.vs/\Below w.1.size w (wr.setCells w.1.size 0 x.vs):=λx=>
   ⟨R.all _ rfl,B.trans ((Vp (S:=λk=>k=w.1.size) rfl _ 0 wr:Turn (λk=>k=w.1.size) wr _).below (λk hk=>by omega) B.size)⟩
  replace fin:=HI fin;by_cases H:j<n
  ·obtain⟨g,o,rfl,Y,y⟩:=O.at_ H;have Q:=q1y (l:=l) (j:=j) (by omega);have p:=qba (n:=nm) (l:=l) (j:=j) (by omega) f;have m:=λq=>qhm (n:=nm) (l:=l) (j:=j) (by omega) f q
   obtain⟨x,D⟩:∃x,Zm l j=x:=⟨_,rfl⟩;rw[D] at y Q p m;have W:=y 0 _ rfl;rw[Nat.add_zero] at W;have x1:=y 1 _ rfl;have x2:=y 2 _ rfl;have X:(0:Int)<=(j:Int):=by omega
   have T:(j:Int)<(n:Int):=by omega
   replace m:=HI m;replace p:=HI p;clear f y Q D O
   cases q:eqS x.name nm with
   |false=>
    have U:(x.name.toList==nm.toList)=false:=q;go_wp2_with fail
    refine⟨⟨j+1,by omega,by go_num,by rw[p.out,AB (by rw[q];exact Bool.false_ne_true)],R,B⟩,by simp[intOf];omega⟩
   |true=>
    have U:(x.name.toList==nm.toList)=true:=q;have u:=m.out q;rw[J.out] at u;subst u;obtain⟨G,E⟩:=fin.out x;go_wp2_with fail
    exact bodyPost_ret (q66 Tryz.results24 rfl (q1q G)) rfl ⟨rfl,E⟩
  ·obtain rfl:j=n:=by omega
   rw[AN (by omega),J.out] at f;subst f;have T:¬(j:Int)<(j:Int):=by omega
   obtain⟨G,E⟩:=fin.out Qm.zero;go_wp2_with fail
   exact bodyPost_ret (q66 Tryz.results24 rfl (q1q G)) rfl ⟨rfl,E⟩
theorem q5p (x:Qm)(r:Bool)(f:x.may=r)(w:WD):Calls prog 48 #[.agg #[.string x.name,.int .i64 x.ino,.int .i64 x.kind]] w λe u=>e=.returned (.bool r)/\Below w.1.size w u:=by
 have m:Below w.1.size w (w.alloc (.cells #[.string x.name,.int .i64 x.ino,.int .i64 x.kind] 32)):=Qi;have hm:x.may=decide ((1<=x.name.size/\x.name.size<=20)/\(1<=x.ino/\x.ino<=2147483647)/\1<=x.kind/\x.kind<=2):=by
  unfold Qm.may q8o Gu;simp only[Bool.decide_and]
 rw[f] at hm;have q:((1:Int)<=(x.name.size:Int)/\(x.name.size:Int)<=20/\1<=x.ino/\x.ino<=2147483647/\1<=x.kind/\x.kind<=2/\r=true)\/(¬(1:Int)<=(x.name.size:Int)/\r=false)\/((1:Int)<=(x.name.size:Int)/\¬(x.name.size:Int)<=20/\r=false)\/((1:Int)<=(x.name.size:Int)/\(x.name.size:Int)<=20/\¬1<=x.ino/\r=false)\/((1:Int)<=(x.name.size:Int)/\(x.name.size:Int)<=20/\1<=x.ino/\¬x.ino<=2147483647/\r=false)\/((1:Int)<=(x.name.size:Int)/\(x.name.size:Int)<=20/\1<=x.ino/\x.ino<=2147483647/\¬1<=x.kind/\r=false)\/((1:Int)<=(x.name.size:Int)/\(x.name.size:Int)<=20/\1<=x.ino/\x.ino<=2147483647/\1<=x.kind/\¬x.kind<=2/\r=false):=by
  subst hm;by_cases c:(1<=x.name.size/\x.name.size<=20)/\(1<=x.ino/\x.ino<=2147483647)/\1<=x.kind/\x.kind<=2
  ·rw[AL c];simp only[and_true];omega
  ·rw[AH c];simp only[and_true];omega
 clear hm f;rcases q with⟨c1,c2,c3,c4,c5,p,rfl⟩|⟨c1,rfl⟩|⟨c1,c2,rfl⟩|⟨c1,c2,c3,rfl⟩|⟨c1,c2,c3,c4,rfl⟩|⟨c1,c2,c3,c4,c5,rfl⟩|⟨c1,c2,c3,c4,c5,p,rfl⟩
 all_goals
  go_enter func48,ntmps48
  go_wp2;go_ret;exact⟨rfl,m⟩
structure Ia (w w':WD)(A':OA)(n' c':Nat)(l':List Qm):Prop where
 row:Zg w' A' n' c' l'
 blk:∀g,q01 A'=some g->w.heap.size<=g
 below:Below w.heap.size w w'
theorem qwp (A:OA)(n c:Nat)(l:List Qm)(x:Qm)(w:WD)(h:Zg w A n c l)(hn:n<=1000)(hx:x.may=true)(hF:Yi x.name l=none) :
  Calls prog 17 #[.slice A n c,.agg #[.string x.name,.int .i64 x.ino,.int .i64 x.kind]] w λe w'=>∃A' c',e=.returned (.tuple #[.slice A' (n+1) c',.int .i64 0])/\Ia w w' A' (n+1) c' (l++[x]):=by
 have N1:IB (w.alloc (.cells #[.string x.name,.int .i64 x.ino,.int .i64 x.kind] 32)) w.1.size x.vs:=IB.new w _ _;have O:Below w.1.size w (w.alloc (.cells #[.string x.name,.int .i64 x.ino,.int .i64 x.kind] 32)):=Qi;have h1:=h.below O;clear h;go_enter func17,ntmps17
 go_wp2_with fail
 generalize w.alloc (.cells #[.string x.name,.int .i64 x.ino,.int .i64 x.kind] 32)=w1 at N1 O h1 ⊢;refine (q5p x true hx w1).mono ?_;rintro e w2 ⟨rfl,b2⟩;have D:=N1.below b2 N1.lt;have l2:=D.lt;have n0:=D.cell 0 rfl;have n1:=D.cell 1 rfl;have n2:=D.cell 2 rfl;have h2:=h1.below b2;have B2:=O.trans (b2.mono O.size);have X:=q4z A n c l x.name w2 h2 none hF;rw[show lkE none=Qm.zero from rfl,show lkC none=10 from rfl] at X;replace X:=HI X;clear N1 O b2 h1;go_wp2_with fail
 refine X.out.mono ?_;rintro e w3 ⟨rfl,b3⟩;have N3:=D.below b3 D.lt;have h3:=h2.below b3;have B3:=B2.trans (b3.mono B2.size);clear n0 n1 n2 D h2 B2 b3 X l2;have b4:Below w3.1.size w3 (w3.alloc (.cells #[.string Qm.zero.name,.int .i64 Qm.zero.ino,.int .i64 Qm.zero.kind] 32)):=Qi;have E:=N3.below b4 N3.lt;have h4:=h3.below b4;have Z:=B3.trans (b4.mono B3.size);obtain⟨f,y⟩:∃f,w3.alloc (.cells #[.string Qm.zero.name,.int .i64 Qm.zero.ino,.int .i64 Qm.zero.kind] 32)=f:=⟨_,rfl⟩;rw[y] at E h4 Z;have l4:=E.lt;have n0:=E.cell 0 rfl;have n1:=E.cell 1 rfl;have n2:=E.cell 2 rfl;clear b4 N3 h3 B3;replace y:=HI y;go_wp2_with fail
 rw[y.out];have Q:Below f.1.size f f.drew:=(AI _ _).drew;have K:Below f.1.size f (f.drew.alloc (.cells #[] 32)):=Q.alloc Q.size _;have La:=h4.below K;have Oa:Jz (f.drew.alloc (.cells #[] 32)) f.1.size (some ⟨f.1.size,0,none⟩) 0 0 []:=q1g f.drew;have bb:Below f.1.size f ((f.drew.alloc (.cells #[] 32)).alloc (.cells #[.string x.name,.int .i64 x.ino,.int .i64 x.kind] 32)):=K.alloc K.size _;have R:Below (f.drew.alloc (.cells #[] 32)).1.size (f.drew.alloc (.cells #[] 32)) ((f.drew.alloc (.cells #[] 32)).alloc (.cells #[.string x.name,.int .i64 x.ino,.int .i64 x.kind] 32)):=Qi;have Lb:=h4.below bb;have Ob:=Oa.below R;have Eb:Zg ((f.drew.alloc (.cells #[] 32)).alloc (.cells #[.string x.name,.int .i64 x.ino,.int .i64 x.kind] 32)) (some ⟨f.1.size+1,0,none⟩) 1 1 [x]:=by
  have:=q1z (f.drew.alloc (.cells #[] 32)) x;rwa [show (f.drew.alloc (.cells #[] 32)).1.size=f.1.size+1 by simp] at this
 have I:Below f.1.size f (f.drew.alloc (.cells #[.string x.name,.int .i64 x.ino,.int .i64 x.kind] 32)):=Q.alloc Q.size _;have bc:Below f.1.size f ((f.drew.alloc (.cells #[.string x.name,.int .i64 x.ino,.int .i64 x.kind] 32)).alloc (.cells #[] 32)):=I.alloc I.size _;have T:Below (f.drew.alloc (.cells #[.string x.name,.int .i64 x.ino,.int .i64 x.kind] 32)).1.size (f.drew.alloc (.cells #[.string x.name,.int .i64 x.ino,.int .i64 x.kind] 32)) ((f.drew.alloc (.cells #[.string x.name,.int .i64 x.ino,.int .i64 x.kind] 32)).alloc (.cells #[] 32)):=Qi;have Lc:=h4.below bc;have Oc:Jz ((f.drew.alloc (.cells #[.string x.name,.int .i64 x.ino,.int .i64 x.kind] 32)).alloc (.cells #[] 32)) f.1.size (some ⟨f.1.size+1,0,none⟩) 0 0 []:=by
  have:=q1g (f.drew.alloc (.cells #[.string x.name,.int .i64 x.ino,.int .i64 x.kind] 32));rw[show (f.drew.alloc (.cells #[.string x.name,.int .i64 x.ino,.int .i64 x.kind] 32)).1.size=f.1.size+1 by simp] at this;exact this.less (by omega)
 have Ec:Zg ((f.drew.alloc (.cells #[.string x.name,.int .i64 x.ino,.int .i64 x.kind] 32)).alloc (.cells #[] 32)) (some ⟨f.1.size,0,none⟩) 1 1 [x]:=(q1z f.drew x).below T;clear R T I Q;go_region_law (first
  |(rw[AA (by rfl)];refine Na (.tmp 24) (.tmp 25) (by rfl) (by rfl) Oa A n c l (by rfl) La (by omega) K.size ?_;intro A9 c9 B p H W;rw[AT,BG] at p;rw[AT];have m:Below f.1.size f B:=K.trans (H.below (λk u=>(Oa.Qa k u).1) K.size);have N9:=E.below m E.lt;have l9:=N9.lt;have m0:=N9.cell 0 rfl;have m1:=N9.cell 1 rfl;have m2:=N9.cell 2 rfl)
  |(rw[AA (by rfl)];refine Na (.tmp 24) (.tmp 25) (by rfl) (by rfl) Ob A n c l (by rfl) Lb (by omega) bb.size ?_;intro A9 c9 B p H W;rw[AT,BG] at p;rw[AT];have m:Below f.1.size f B:=bb.trans (H.below (λk u=>(Ob.Qa k u).1) bb.size);have E9:=Eb.turned H (λg Y h=>by have h1:f.1.size+1=g:=OI Y;have h2:f.1.size=g:=OI h;omega))
  |(rw[AA (by rfl)];refine Na (.tmp 24) (.tmp 25) (by rfl) (by rfl) Oc A n c l (by rfl) Lc (by omega) bc.size ?_;intro A9 c9 B p H W;rw[AT,BG] at p;rw[AT];have m:Below f.1.size f B:=bc.trans (H.below (λk u=>(Oc.Qa k u).1) bc.size);have E9:=Ec.turned H (λg Y h=>by have h1:f.1.size=g:=OI Y;have h2:f.1.size+1=g:=OI h;omega))
  |(rw[AA (by rfl)];refine Na (.tmp 26) (.tmp 28) (by rfl) (by rfl) p _ 1 1 [x] (by rfl) E9 (by omega) m.size ?_;intro M U J F G V;have P:Below f.1.size f J:=m.trans (G.below (λk u=>(p.Qa k u).1) m.size))
  |(rw[AA (by rfl)];have q:Below B.1.size B (B.alloc (.cells #[.string x.name,.int .i64 x.ino,.int .i64 x.kind] 32)):=Qi;refine Na (.tmp 26) (.tmp 28) (by rfl) (by rfl) (p.below q) _ 1 1 [x] (by rfl) (q1z B x) (by omega) (AZ m.size q.size) ?_;intro M U J F G V;have P:Below f.1.size f J:=(m.trans (q.mono m.size)).trans (G.below (λk u=>(p.Qa k u).1) (AZ m.size q.size)))
  |fail)
 all_goals (
  go_wp2_with fail
  go_ret2;exact⟨M,U,rfl,⟨F.ents,λg Y=>(by have:=(F.Qa g Y).1;have:=Z.size;omega),Z.trans (P.mono Z.size)⟩⟩)
theorem qwq (A:OA)(n c:Nat)(x:Qm)(w:WD)(p:x.may=false) :
  Calls prog 17 #[.slice A n c,.agg #[.string x.name,.int .i64 x.ino,.int .i64 x.kind]] w λe q=>e=.returned (.tuple #[.slice A n c,.int .i64 1])/\Below w.1.size w q:=by
 have f:Below w.1.size w (w.alloc (.cells #[.string x.name,.int .i64 x.ino,.int .i64 x.kind] 32)):=Qi;go_enter func17,ntmps17
 go_wp2_with fail
 refine (q5p x false p _).mono ?_;rintro e u ⟨rfl,m⟩;go_wp2_with fail
 go_ret2;exact⟨rfl,f.trans (m.mono f.size)⟩
theorem qsl (A:OA)(n c:Nat)(x:Qm)(w:WD)(p:x.may=false) :
  Calls prog 22 #[.slice A n c,.agg #[.string x.name,.int .i64 x.ino,.int .i64 x.kind]] w λe q=>e=.returned (.tuple #[.slice A n c,.int .i64 1])/\Below w.1.size w q:=by
 have f:Below w.1.size w (w.alloc (.cells #[.string x.name,.int .i64 x.ino,.int .i64 x.kind] 32)):=Qi;go_enter func22,ntmps22
 go_wp2_with fail
 refine (q5p x false p _).mono ?_;rintro e u ⟨rfl,m⟩;go_wp2_with fail
 go_ret2;exact⟨rfl,f.trans (m.mono f.size)⟩
theorem qmh (y:Qm):lkE (some y)=y:=rfl
theorem qmi (y:Qm):lkC (some y)=0:=rfl
theorem qou (A:OA)(n c:Nat)(l:List Qm)(x y:Qm)(w:WD)(h:Zg w A n c l)(I:x.may=true)(hF:Yi x.name l=some y) :
  Calls prog 17 #[.slice A n c,.agg #[.string x.name,.int .i64 x.ino,.int .i64 x.kind]] w λe K=>e=.returned (.tuple #[.slice A n c,.int .i64 11])/\Below w.1.size w K:=by
 have p:IB (w.alloc (.cells #[.string x.name,.int .i64 x.ino,.int .i64 x.kind] 32)) w.1.size x.vs:=IB.new w _ _;have f:Below w.1.size w (w.alloc (.cells #[.string x.name,.int .i64 x.ino,.int .i64 x.kind] 32)):=Qi;have h1:=h.below f;clear h;go_enter func17,ntmps17
 go_wp2_with fail
 generalize w.alloc (.cells #[.string x.name,.int .i64 x.ino,.int .i64 x.kind] 32)=M at p f h1 ⊢;refine (q5p x true I M).mono ?_;rintro e O ⟨rfl,q⟩;have E:=p.below q p.lt;have J:=E.cell 0 rfl;have h2:=h1.below q;have u:=f.trans (q.mono f.size);have m:=q4z A n c l x.name O h2 (some y) hF;rw[qmh,qmi] at m;replace m:=HI m;clear p f q h1;go_wp2_with fail
 refine m.out.mono ?_;rintro e B ⟨rfl,F⟩;have H:Below B.1.size B (B.alloc (.cells #[.string y.name,.int .i64 y.ino,.int .i64 y.kind] 32)):=Qi;have D:=u.trans (F.mono u.size);have G:=D.trans (H.mono D.size);clear J E h2 u F m;go_wp2_with fail
 go_ret2;exact⟨rfl,G⟩
theorem qov {n:ByteArray}{l:List Qm}{j:Nat}(f:j<l.length):Gx n (l.take (j+1))=Gx n (l.take j)++(if eqS (Zm l j).name n=true then [] else [Zm l j]):=by
 rw[List.take_add_one,q1y f];unfold Gx;rw[List.filter_append];congr 1
 show List.filter _ [Zm l j]=_
 cases e:eqS (Zm l j).name n<;>simp[List.filter,e]
def Qbr (w:WD)(A:OA)(n c:Nat)(l r:List Qm)(e:Ending)(w':WD):Prop:=
 (r.length=l.length/\e=.returned (.tuple #[.slice A n c,.int .i64 10])/\Below w.1.size w w')\/
 (r.length≠l.length/\∃f p m,e=.returned (.tuple #[.slice f p m,.int .i64 0])/\Ia w w' f p m r)
theorem qAi {w w':WD}{A:OA}{n c:Nat}{l r:List Qm}(h:r.length=l.length)(e:Below w.1.size w w'):Qbr w A n c l r (.returned (.tuple #[.slice A n c,.int .i64 10])) w':=.inl ⟨h,rfl,e⟩
theorem qwr {w w':WD}{A e:OA}{n c m f:Nat}{l r:List Qm}(h:r.length≠l.length)(p:Ia w w' e m f r):Qbr w A n c l r (.returned (.tuple #[.slice e m f,.int .i64 0])) w':=.inr ⟨h,e,m,f,rfl,p⟩
theorem qmj (A:OA)(n c:Nat)(l:List Qm)(nm:ByteArray)(w:WD)(h:Zg w A n c l)(hn:n<=1000)(r:List Qm)(f:Gx nm l=r) :
  Calls prog 20 #[.slice A n c,.string nm] w (Qbr w A n c l r):=by
 have I:Jz (w.alloc (.cells #[] 32)) w.1.size (some ⟨w.1.size,0,none⟩) 0 0 []:=q1g w;have K:Below w.1.size w (w.alloc (.cells #[] 32)):=Qi;have hl:=h.len;obtain⟨M,G⟩:=h.bounds;unfold maxLen at G;have T:=HI f;clear f;go_enter func20,ntmps20
 go_wp2_with fail
 go_loopw [6,7] (λv s wr=>∃(j:Nat) (B:OA) (k d:Nat),j<=n/\k<=j/\s=.int .i64 (j:Int)/\v=.slice B k d/\Jz wr w.1.size B k d (Gx nm (l.take j))/\Below w.1.size w wr) (λ_ s _=>n-(intOf s).toNat)
 case atStart=>exact⟨0,_,0,0,AW _,AW _,rfl,rfl,I,K⟩
 case round=>
  clear I K;obtain⟨j,B,k,d,hj,hk,rfl,rfl,O,m⟩:=hrel;have D:Zg wr A n c l:=h.below m;by_cases F:j<n
  ·obtain⟨g,o,rfl,u,f⟩:=D.at_ F;have e:=qov (n:=nm) (l:=l) (j:=j) (by omega);obtain⟨x,q⟩:∃x,Zm l j=x:=⟨_,rfl⟩;rw[q] at f e;have P:=f 0 _ rfl;rw[Nat.add_zero] at P;have x1:=f 1 _ rfl;have x2:=f 2 _ rfl;have e0:(0:Int)<=(j:Int):=by omega
   have W:(j:Int)<(n:Int):=by omega
   replace e:=HI e;clear f q D
   cases p:eqS x.name nm with
   |true=>
    have H:=(Nz _ _).1 p;have H:(x.name.toList==nm.toList)=true:=p;rw[(Nz _ _).1 p] at P H;go_wp2_with fail
    refine⟨⟨j+1,B,k,d,by omega,by omega,by go_num,rfl,?_,m⟩,by simp[intOf];omega⟩;rw[e.out,AA p,BM];exact O
   |false=>
    have H:(x.name.toList==nm.toList)=false:=p;have X:=q1z wr x;have y:Below wr.1.size wr (wr.alloc (.cells #[.string x.name,.int .i64 x.ino,.int .i64 x.kind] 32)):=Qi;have J:=O.below y;have z3:w.1.size<=(wr.alloc (.cells #[.string x.name,.int .i64 x.ino,.int .i64 x.kind] 32)).1.size:=AZ m.size y.size;go_wp2_with (first
     |(at_builtin;refine q36 rfl (.tmp 22) (.tmp 27) rfl rfl J _ 1 1 [x] rfl X (by omega) z3 ?_;intro Q c4 w4 U V Y)
     |fail)
    have R:Below w.1.size w w4:=(m.trans (y.mono m.size)).trans (V.below (λg u=>(J.Qa g u).1) z3);refine⟨⟨j+1,Q,k+1,c4,by omega,by omega,by go_num,rfl,?_,R⟩,by simp[intOf];omega⟩;rw[e.out,AB (by rw[p];exact Bool.false_ne_true)];exact U
  ·obtain rfl:j=n:=by omega
   have W:¬(j:Int)<(j:Int):=by omega
   rw[AN (by omega),T.out] at O;have Z:=O.ents.len;by_cases E:k=j
   ·subst E;clear D;go_wp2_with fail
    go_ret2;exact qAi (by omega) m
   ·have e2:¬(k:Int)=(j:Int):=by omega
    go_wp2_with fail
    go_ret2;exact qwr (by omega) ⟨O.ents,λg u=>(O.Qa g u).1,m⟩
theorem q9d:∀(x y:LU),Op.bytesLess x y=decide (x<y)
 |[],[]=>by simp[Op.bytesLess]
 |_::_,[]=>by simp[Op.bytesLess]
 |[],_::_=>by simp[Op.bytesLess]
 |a::x,b::y=>by
  rw[Op.bytesLess,q9d x y];simp only[List.cons_lt_cons_iff];by_cases h1:a<b<;>by_cases h2:a=b<;>by_cases e:x<y<;>simp[h1,h2,e]
def Jr (s t:ByteArray):Bool:=Op.bytesLess s.toList t.toList
theorem q21 (s t:ByteArray):Jr s t=true↔s.data.toList<t.data.toList:=by
 unfold Jr;rw[q9d,Lib.toList_data,Lib.toList_data,decide_eq_true_iff]
theorem qhn (s:ByteArray):Jr s s=false:=by
 cases h:Jr s s with
 |false=>rfl
 |true=>exact absurd ((q21 _ _).1 h) (List.lt_irrefl _)
theorem q4d {s t u:ByteArray}(h:Jr s t=true)(h2:Jr t u=true):Jr s u=true:=
 (q21 _ _).2 (List.lt_trans ((q21 _ _).1 h) ((q21 _ _).1 h2))
theorem qjy {s t:ByteArray}(h:Jr s t=true)(h2:Jr t s=true):False:=by
 have:=q4d h h2;rw[qhn] at this
 cases this
theorem q6j {s t:ByteArray}(h:s≠t):Jr s t=true\/Jr t s=true:=by
 by_cases h1:s.data.toList<t.data.toList
 ·exact .inl ((q21 _ _).2 h1)
 by_cases h2:t.data.toList<s.data.toList
 ·exact .inr ((q21 _ _).2 h2)
 exact absurd (ByteArray.ext (Array.toList_inj.1 (List.le_antisymm (List.not_lt.1 h2) (List.not_lt.1 h1)))) h
theorem q8e:∀(a b:LU),Lib.compareBytes a b<0↔a<b
 |[],[]=>by simp[Lib.compareBytes]
 |[],_::_=>by simp[Lib.compareBytes]
 |_::_,[]=>by simp[Lib.compareBytes]
 |a::xs,b::ys=>by
  unfold Lib.compareBytes;rw[List.cons_lt_cons_iff];by_cases h1:a<b
  ·rw[AA h1];exact⟨λ_=>.inl h1,λ_=>by omega⟩
  ·rw[AB h1];by_cases h2:b<a
   ·rw[AA h2];refine⟨λh=>by omega,λh=>?_⟩;rcases h with h|⟨h,_⟩
    ·exact absurd h h1
    ·subst h;exact absurd h2 h1
   ·rw[AB h2,q8e xs ys];have e:a=b:=UInt8.le_antisymm (UInt8.not_lt.1 h2) (UInt8.not_lt.1 h1);exact⟨λh=>.inr ⟨e,h⟩,λh=>h.elim (λh=>absurd h h1) λh=>h.2⟩
def U9 (x y:Qm):Int:=Lib.compareBytes x.name.data.toList y.name.data.toList
theorem qf6 (x y:Qm):(decide (U9 x y<0))=Jr x.name y.name:=by
 cases h:Jr x.name y.name with
 |true=>exact AL ((q8e _ _).2 ((q21 _ _).1 h))
 |false=>exact AH λe=>by rw[(q21 _ _).2 ((q8e _ _).1 e)] at h;cases h
def q8f (l:List Qm):Prop:=l.Pairwise λx y=>Jr x.name y.name=true
def Zt (n:ByteArray)(l:List Qm):Nat:=(l.takeWhile λx=>Jr x.name n).length
def Au (x:Qm)(l:List Qm):List Qm:=l.take (Zt x.name l)++(x::l.drop (Zt x.name l))
def Yv (l:List Qm):List Qm:=l.foldl (λout x=>Au x out) []
theorem q8g (l:List Qm)(x:Qm):Yv (l++[x])=Au x (Yv l):=by unfold Yv;rw[List.foldl_append];rfl
theorem qsm (n:ByteArray)(l:List Qm):Zt n l<=l.length:=(List.takeWhile_sublist _).length_le
theorem q5q (n:ByteArray)(y:Qm)(l:List Qm):Zt n (y::l)=if Jr y.name n=true then Zt n l+1 else 0:=by
 unfold Zt;rw[List.takeWhile_cons];split<;>rfl
theorem qf7:∀{n:ByteArray} {l:List Qm} {j:Nat} (_:j<Zt n l) (e:j<l.length),Jr l[j].name n=true
 |n,y::l,j,h,e=>by
  rw[q5q] at h;split at h
  ·next hy=>
   cases j with
   |zero=>exact hy
   |succ j=>exact qf7 (l:=l) (j:=j) (by omega) (by simpa using e)
  ·omega
theorem qf8:∀{n:ByteArray} {l:List Qm} (f:Zt n l<l.length),Jr (l[Zt n l]'f).name n=false
 |n,y::l,f=>by
  by_cases m:Jr y.name n=true
  ·have e:Zt n (y::l)=Zt n l+1:=by rw[q5q,AA m]
   have h2:Zt n l<l.length:=by rw[e] at f;simpa using f
   have:=qf8 h2;simp only[e,List.getElem_cons_succ];exact this
  ·have e:Zt n (y::l)=0:=by rw[q5q,AB m]
   simp only[e,List.getElem_cons_zero];exact Bool.eq_false_iff.2 m
theorem qsn (x:Qm)(l:List Qm):(Au x l).Perm (x::l):=by
 unfold Au;refine List.perm_middle.trans ?_;rw[AV]
theorem qjz {x:Qm}{l:List Qm}(h:q8f l)(hn:∀y∈l,y.name≠x.name):q8f (Au x l):=by
 unfold Au;have q:=h;rw[<-AV (Zt x.name l) l] at q;obtain⟨h1,h2,B⟩:=List.pairwise_append.1 q;have D:∀y∈l.take (Zt x.name l),Jr y.name x.name=true:=λy f=>by
  obtain⟨j,F,rfl⟩:=List.mem_iff_getElem.1 f;rw[AR] at F;rw[List.getElem_take];exact qf7 (by omega) _
 have E:∀y∈l.drop (Zt x.name l),Jr x.name y.name=true:=λy f=>by
  have p:Zt x.name l<l.length:=by
   have:=List.length_pos_of_mem f;rw[AS] at this;omega
  have h0:=qf8 p;have u:Jr x.name (l[Zt x.name l]'p).name=true:=by
   rcases q6j (hn _ (List.getElem_mem p)) with h|h
   ·rw[h] at h0;cases h0
   ·exact h
  rw[List.drop_eq_getElem_cons p] at f h2;rcases List.mem_cons.1 f with rfl|f
  ·exact u
  ·exact q4d u ((List.pairwise_cons.1 h2).1 y f)
 refine List.pairwise_append.2 ⟨h1,List.pairwise_cons.2 ⟨E,h2⟩,λa m b e=>?_⟩;rcases List.mem_cons.1 e with rfl|e
 ·exact D a m
 ·exact B a m b e
theorem qdm (l:List Qm):(Yv l).Perm l:=by
 suffices h:∀(r l:List Qm),l=r.reverse->(Yv l).Perm l from h l.reverse l (by simp)
 intro r;induction r with
 |nil=>rintro _ rfl;exact List.Perm.refl _
 |cons y r ih=>
  rintro _ rfl;rw[List.reverse_cons,q8g];refine (qsn _ _).trans ?_;exact ((ih _ rfl).cons y).trans (List.perm_append_singleton y _).symm
theorem qho {l:List Qm}(h:l.Pairwise λx y=>x.name≠y.name):q8f (Yv l):=by
 suffices ∀(r l:List Qm),l=r.reverse->(l.Pairwise λx y=>x.name≠y.name)->q8f (Yv l) from this l.reverse l (by simp) h
 intro r;induction r with
 |nil=>rintro _ rfl _;exact List.Pairwise.nil
 |cons y r ih=>
  rintro _ rfl e;rw[List.reverse_cons] at e ⊢;rw[q8g];obtain⟨h1,_,f⟩:=List.pairwise_append.1 e;exact qjz (ih _ rfl h1) λz m=>f z ((qdm _).mem_iff.1 m) y (List.mem_singleton.2 rfl)
theorem qow {L:List De}{lim:Int}(h:Ji L lim):(J5 L).Pairwise λx y=>x.name≠y.name:=List.pairwise_map.2 h.name
theorem qox {a b:List Qm}(e:q8f a)(f:q8f b)(m:a.Perm b):a=b:=
 List.Perm.eq_of_pairwise (λ_ _ _ _ h1 h2=>(qjy h1 h2).elim) e f m
theorem qso [Inhabited Qm]{d e:Array Qm}(F:Sort.PermIn 0 d.size d e)(G:Sort.SortedIn (λx y=>decide (U9 x y<0)) 0 d.size e)(hn:d.toList.Pairwise λx y=>x.name≠y.name):e.toList=Yv d.toList:=by
 obtain⟨h1,_,m⟩:=F;have D:e.extract 0 d.size=e:=by rw[<-h1];exact Array.extract_size
 have E:d.extract 0 d.size=d:=Array.extract_size;rw[D,E] at m;refine qox ?_ (qho hn) (m.trans (qdm _).symm);have u:e.toList.Pairwise λx y=>x.name≠y.name:=m.symm.pairwise hn λh=>h.symm
 refine List.pairwise_iff_getElem.2 λi j hi B f=>?_
 have q:j<d.size:=by rw[<-h1];simpa using B
 have p:decide (U9 e[j]! e[i]!<0)=false:=G i j (AW _) f q;rw[qf6,getElem!_pos e j (by omega),getElem!_pos e i (by omega)] at p;rcases q6j (List.pairwise_iff_getElem.1 u i j hi B f) with h|h
 ·exact h
 ·have:Jr e[j].name e[i].name=true:=h;rw[this] at p
  cases p
