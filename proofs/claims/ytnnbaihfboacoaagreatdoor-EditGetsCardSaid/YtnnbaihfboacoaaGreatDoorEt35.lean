/- Trees as plain data: what is got, and what is told between two keys; of a store that tells -/
import Derived.Test.YtnnbaihfboacoaaGreatDoorKeySv1
import Derived.Test.YtnnbaihfboacoaaGreatDoorEt14
namespace Go.Proofs.YtnnbaihfboacoaaGreatDoor
open Go Go.RowKit Go.Proofs
set_option maxHeartbeats 8000000
set_option maxRecDepth 100000
def within (fr to:Kd)(its:List Qc):List Qc:=its.filter λx=>!x.k.less fr&&!to.less x.k
def Yd (f:Int->List Qc->List Qc × Int)(to:Kd)(most:Nat):List Ql->List Qc->List Qc × Int
 |[],acc=>(acc,0)
 |x::r,acc=>if to.less x.k=true\/most<=acc.length then (acc,0) else if (f x.a acc).2≠0 then ([],(f x.a acc).2) else Yd f to most r (f x.a acc).1
def Js (R:Int->Nd × Int)(fr to:Kd)(most:Nat):Nat->Int->List Qc->List Qc × Int
 |0,a,acc=>if (R a).2≠0 then ([],(R a).2) else if (R a).1.lvl≠0 then ([],5) else ((acc++within fr to (R a).1.items).take most,0)
 |l+1,a,acc=>if (R a).2≠0 then ([],(R a).2) else if (R a).1.lvl≠((l+1:Nat):Int) then ([],5) else Yd (Js R fr to most l) to most ((R a).1.kids.drop ((R a).1.Za fr)) acc
theorem q4a {fr to:Kd}{its:List Qc}(h:∀x∈its,x.k.less fr=true\/to.less x.k=true):within fr to its=[]:=by
 unfold within;rw[List.filter_eq_nil_iff];intro x b;rcases h x b with e|e<;>simp[e]
theorem q4b {α:Type}{a b:List α}{m:Nat}(h:m<=a.length):(a++b).take m=a.take m:=by
 rw[List.take_append,Nat.sub_eq_zero_of_le h,List.take_zero,List.append_nil]
theorem q8w {α:Type}(a b:List α)(m:Nat):(a.take m++b).take m=(a++b).take m:=by
 by_cases h:m<=a.length
 ·rw[q4b h,q4b (by rw[List.length_take];omega),List.take_take,Nat.min_self]
 ·rw[List.take_of_length_le (l:=a) (by omega)]
theorem qgq {f:Int->List Qc->List Qc × Int}{fr to:Kd}{most:Nat}:∀(kids:List Ql) (parts:List (List Qc)) (b:List Qc),parts.length=kids.length->b.length<=most->Qd parts.flatten->
  (∀j,j<kids.length->(∀b:List Qc,b.length<=most->f (Qg kids j).a b=((b++within fr to (parts.getD j [])).take most,0))/\∃x r,parts.getD j []=x::r/\(Qg kids j).k=x.k)->
  Yd f to most kids b=((b++within fr to parts.flatten).take most,0)
 |[],parts,b,hl,ha,_,_=>by
  obtain rfl:parts=[]:=List.length_eq_zero_iff.1 hl;unfold Yd;rw[List.flatten_nil,show within fr to []=[] from rfl,List.append_nil,List.take_of_length_le ha]
 |x::kids,[],b,hl,_,_,_=>by simp at hl
 |x::kids,p::parts,b,hl,ha,hr,h=>by
  obtain⟨h0,y,r,u,A⟩:=h 0 (by rw[List.length_cons];omega);have u:p=y::r:=u;have A:x.k=y.k:=A;have h0:∀b:List Qc,b.length<=most->f x.a b=((b++within fr to p).take most,0):=h0;unfold Yd;by_cases e:to.less x.k=true
  ·rw[if_pos (.inl e)];have:within fr to (p::parts).flatten=[]:=q4a λz m=>.inr (by
    have d:z=y\/y.k.less z.k=true:=by
     rw[List.flatten_cons,u,List.cons_append] at m hr;rcases List.mem_cons.1 m with rfl|m
     ·exact .inl rfl
     ·exact .inr ((List.pairwise_cons.1 hr).1 z m)
    rw[A] at e;rcases d with rfl|d
    ·exact e
    ·exact Kd.trans _ _ _ e d)
   rw[this,List.append_nil,List.take_of_length_le ha]
  ·by_cases hm:most<=b.length
   ·rw[if_pos (.inr hm),q4b hm,List.take_of_length_le ha]
   ·rw[if_neg (by rintro (h|h);exact e h;exact hm h),h0 b ha];dsimp only;rw[if_neg (by simp),qgq kids parts _ (by simpa using hl) (by rw[List.length_take];omega) (by
     rw[List.flatten_cons] at hr;exact (List.pairwise_append.1 hr).2.1) λj F=>?_]
    ·have:within fr to (p::parts).flatten=within fr to p++within fr to parts.flatten:=by unfold within;rw[List.flatten_cons,List.filter_append]
     rw[this,q8w,List.append_assoc]
    ·obtain⟨h1,z,s,B,D⟩:=h (j+1) (by rw[List.length_cons];omega);rw[getD_cons_succ] at h1 B;have E:Qg (x::kids) (j+1)=Qg kids j:=by unfold Qg;rw[getD_cons_succ]
     rw[E] at h1 D;exact⟨h1,z,s,B,D⟩
theorem qgr {α:Type}(l:List α)(n j:Nat)(d:α):(l.drop n).getD j d=l.getD (n+j) d:=by
 rw[List.getD_eq_getElem?_getD,List.getD_eq_getElem?_getD,List.getElem?_drop]
theorem qd0 {R:Int->Nd × Int}(fr to:Kd)(most:Nat):∀(l:Nat) (a:Int) (its b:List Qc),Qp R l a its->Qd its->b.length<=most->Js R fr to most l a b=((b++within fr to its).take most,0)
 |0,a,its,b,h,hr,u=>by
  obtain⟨h1,_⟩:=h;unfold Js;rw[h1];dsimp only;rw[if_neg (by simp),if_neg (by simp)]
 |l+1,a,its,b,h,hr,u=>by
  obtain⟨kids,parts,h1,h2,I,rfl,G⟩:=h;have P:(⟨((l+1:Nat):Int),[],kids⟩:Nd).Za fr=lastTo (kids.map (·.k)) fr kids.length:=by
   unfold Nd.Za;have:¬((l+1:Nat):Int)=0:=by omega
   dsimp only;rw[if_neg this,q4n,List.length_map]
  obtain⟨n,hn⟩:∃n,lastTo (kids.map (·.k)) fr kids.length=n:=⟨_,rfl⟩;have U:0<kids.length:=List.length_pos_iff.2 h2;have m:n<kids.length:=by
   rcases q75 (kids.map (·.k)) fr kids.length with e|e<;>omega
  unfold Js;rw[h1];dsimp only;rw[if_neg (by simp),if_neg (by simp),P,hn];have d:parts.flatten=(parts.take n).flatten++(parts.drop n).flatten:=by rw[<-List.flatten_append,List.take_append_drop]
  have f:within fr to (parts.take n).flatten=[]:=q4a λx T=>.inl (by
   obtain⟨p,M,E⟩:=List.mem_flatten.1 T;obtain⟨q,O,e⟩:=List.getElem_of_mem M;have D:q<n:=by rw[List.length_take] at O;omega
   have F:x∈parts.getD q []:=by
    rw[List.getElem_take] at e;rw[List.getD_eq_getElem?_getD,List.getElem?_eq_getElem (by omega),e];exact E
   obtain⟨_,z,s,y,A⟩:=G n m;have B:x.k.less z.k=true:=q5c hr D (by omega) F (by rw[y];exact List.mem_cons_self ..);have J:fr.less z.k=false:=by
    have:=q5s (kids.map (·.k)) fr kids.length (by omega);rw[hn,q4o kids m,A] at this;exact this
   exact qc5 B J)
  have Q:within fr to parts.flatten=within fr to (parts.drop n).flatten:=by
   have:within fr to parts.flatten=within fr to (parts.take n).flatten++within fr to (parts.drop n).flatten:=by
    conv=>lhs;rw[d]
    unfold within;rw[List.filter_append]
   rw[this,f,List.nil_append]
  rw[Q];refine qgq (kids.drop n) (parts.drop n) b (by rw[List.length_drop,List.length_drop,I]) u ?_ λj K=>?_
  ·rw[d] at hr;exact (List.pairwise_append.1 hr).2.1
  ·rw[List.length_drop] at K;have H:Qg (kids.drop n) j=Qg kids (n+j):=by unfold Qg;rw[qgr]
   rw[H,qgr];obtain⟨B,z,s,y,A⟩:=G (n+j) (by omega);exact⟨λb u=>qd0 fr to most l _ _ b B (q3j hr (n+j)) u,z,s,y,A⟩
theorem qmm {l:List Qc}(h:∀x∈l,x.k.may=true):within ⟨0,0,0⟩ ⟨2147483647,255,2147483647⟩ l=l:=by
 unfold within;rw[List.filter_eq_self];intro x e;have h1:=of_decide_eq_true (h x e);have b:x.k.less ⟨0,0,0⟩=false:=by
  unfold Kd.less;dsimp only;split
  ·split
   ·exact decide_eq_false (by omega)
   ·exact decide_eq_false (by omega)
  ·exact decide_eq_false (by omega)
 have d:(⟨2147483647,255,2147483647⟩:Kd).less x.k=false:=by
  unfold Kd.less;dsimp only;split
  ·split
   ·exact decide_eq_false (by omega)
   ·exact decide_eq_false (by omega)
  ·exact decide_eq_false (by omega)
 rw[b,d];rfl
theorem qu4 (x y:Operand)(xs b:Array Value)(w:World):(eqGuard .neq 30 x y (.agg xs) (.agg b)).run Tryz.prog w=.ok () w:=
 run_eqGuard_agg w .neq 30 x y xs b (by kernel_rfl)
theorem qu5 (a:Kd)(w:World)(d:Nat):(Op.equalIn (d+2) 30 (.agg #[.int .i64 a.obj,.int .i64 a.kind,.int .i64 a.off]) (.agg #[.int .i64 a.obj,.int .i64 a.kind,.int .i64 a.off])).run Tryz.prog w=.ok true w:=by
 rw[run_equalIn_agg w (d+1) 30 _ _ (by kernel_rfl) (by kernel_rfl)];unfold Program.fieldsOf;rw[Tryz.underlying30];simp[go_sem,Tryz.underlying3]
theorem qy4 (a:Kd)(w:World):(binOp .neq 30 (.agg #[.int .i64 a.obj,.int .i64 a.kind,.int .i64 a.off]) (.agg #[.int .i64 a.obj,.int .i64 a.kind,.int .i64 a.off])).run Tryz.prog w=.ok (.bool false) w:=by
 rw[run_neq_struct,qu5 a w 9998];rfl
theorem q61 (l:List Qc)(A:Option Addr)(n c:Nat)(F:Option Addr)(c2:Nat)(w:World)(B:Zl w A n c l)(D:Zl w F n c2 l) :
  Calls Tryz.prog 15 #[.slice A n c,.slice F n c2] w λe w'=>e=.returned (.bool true)/\Below w.1.size w w':=by
 have hg:=qu4;obtain⟨Y,E⟩:=B.bounds;unfold maxLen at E;go_enter Tryz.func15,Tryz.ntmps15
 go_wp2_with fail
 have M:=Lib.hid B.len;go_loopw [5] (λi wr=>∃j:Nat,j<=n/\i=.int .i64 (j:Int)/\Below w.1.size w wr) (λi _=>n-(intOf i).toNat)
 case atStart=>exact⟨0,Nat.zero_le _,rfl,Below.refl _ _⟩
 case round=>
  obtain⟨j,hj,rfl,m⟩:=hrel;by_cases d:j<n
  ·obtain⟨g,o,B',m',d',W,Z,a0,O,P,a3,b⟩:=(B.below m).cell d;obtain⟨g2,o2,K,b0,Q,u,a6,R,T,U,e3,p⟩:=(D.below m).cell d;subst W u;obtain⟨x,H⟩:∃x,Qj l j=x:=⟨_,rfl⟩;rw[H] at a0 O P b R T U p;clear H;obtain⟨X,G⟩:∃X,(⟨x.v.toArray⟩:ByteArray)=X:=⟨_,rfl⟩;have I:=λk=>Qch (b.drewN k)
   have J:=λk=>Qch (p.drewN k)
   rw[G] at I J;have hq:=qy4 x.k;have a7:(0:Int)<=(j:Int):=by omega
   have a8:(j:Int)<(n:Int):=by omega
   clear b p G;go_wp2_with fail
   go_quiet (fail)
   generalize f:World.drewN wr _=w5;have y:Below w.1.size w w5:=by rw[<-f];exact q1g m _
   clear f I J;go_wp2;exact⟨⟨j+1,by omega,by go_num,y⟩,by simp[intOf];omega⟩
  ·obtain rfl:n=j:=by omega
   go_wp2;go_ret;exact⟨rfl,m⟩
