/- Keys: contracts with the numbers written out; boxes; what is laid and taken, as texts -/
import Derived.Test.YthkfkhejjmhomaaGreatDoorBasev1
import Derived.Test.YthkfkhejjmhomaaGreatDoorEs9
namespace Go.Proofs.YthkfkhejjmhomaaGreatDoor
open Go Go.RowKit Go.Proofs
set_option maxHeartbeats 8000000
set_option maxRecDepth 100000
theorem Qcq {w:World}{A:Option Addr}{n c:Nat}{l:List UInt8}(h:Sl w A n c l):(convert 48 9 (.slice A n c)).run Tryz.prog w=.ok (.string ⟨l.toArray⟩) w:=
 q67 _ _ _ Az Tryz.underlying5 Tryz.underlying9 h
theorem Qbk (w:World)(a b:Kd):KB ((w.alloc (.cells #[.int .i64 a.obj,.int .i64 a.kind,.int .i64 a.off] 45)).alloc (.cells #[.int .i64 b.obj,.int .i64 b.kind,.int .i64 b.off] 45)) w.1.size a/\KB ((w.alloc (.cells #[.int .i64 a.obj,.int .i64 a.kind,.int .i64 a.off] 45)).alloc (.cells #[.int .i64 b.obj,.int .i64 b.kind,.int .i64 b.off] 45)) (w.1.size+1) b/\Below w.1.size w ((w.alloc (.cells #[.int .i64 a.obj,.int .i64 a.kind,.int .i64 a.off] 45)).alloc (.cells #[.int .i64 b.obj,.int .i64 b.kind,.int .i64 b.off] 45)):=
 ⟨(KB.new w a.obj a.kind a.off _).below (Qn) (by simp),KB.new2 w _ b.obj b.kind b.off _,(Qn).alloc (by simp) _⟩
def within (fr «to»:Kd)(its:List Qg):List Qg:=its.filter λx=>!x.k.less fr&&!«to».less x.k
def Xv (f:Int->List Qg->List Qg × Int)(«to»:Kd)(most:Nat):List Qm->List Qg->List Qg × Int
 |[],acc=>(acc,0)
 |x::r,acc=>if «to».less x.k=true\/most<=acc.length then (acc,0) else if (f x.a acc).2≠0 then ([],(f x.a acc).2) else Xv f «to» most r (f x.a acc).1
def Jp (R:Int->Nd × Int)(fr «to»:Kd)(most:Nat):Nat->Int->List Qg->List Qg × Int
 |0,a,acc=>if (R a).2≠0 then ([],(R a).2) else if (R a).1.lvl≠0 then ([],5) else ((acc++within fr «to» (R a).1.items).take most,0)
 |l+1,a,acc=>if (R a).2≠0 then ([],(R a).2) else if (R a).1.lvl≠((l+1:Nat):Int) then ([],5) else Xv (Jp R fr «to» most l) «to» most ((R a).1.kids.drop ((R a).1.Zb fr)) acc
theorem q4h {fr «to»:Kd}{its:List Qg}(h:∀x∈its,x.k.less fr=true\/«to».less x.k=true):within fr «to» its=[]:=by
 unfold within;rw[List.filter_eq_nil_iff];intro x b;rcases h x b with e|e<;>simp[e]
theorem q4i {α:Type}{a b:List α}{m:Nat}(h:m<=a.length):(a++b).take m=a.take m:=by
 rw[List.take_append,Nat.sub_eq_zero_of_le h,List.take_zero,List.append_nil]
theorem q99 {α:Type}(a b:List α)(m:Nat):(a.take m++b).take m=(a++b).take m:=by
 by_cases h:m<=a.length
 ·rw[q4i h,q4i (by rw[List.length_take];omega),List.take_take,Nat.min_self]
 ·rw[List.take_of_length_le (l:=a) (by omega)]
theorem qgm {f:Int->List Qg->List Qg × Int}{fr «to»:Kd}{most:Nat}:∀(kids:List Qm) (parts:List (List Qg)) (b:List Qg),parts.length=kids.length->b.length<=most->Qk parts.flatten->
  (∀j,j<kids.length->(∀b:List Qg,b.length<=most->f (Qh kids j).a b=((b++within fr «to» (parts.getD j [])).take most,0))/\∃x r,parts.getD j []=x::r/\(Qh kids j).k=x.k)->
  Xv f «to» most kids b=((b++within fr «to» parts.flatten).take most,0)
 |[],parts,b,hl,ha,_,_=>by
  obtain rfl:parts=[]:=List.length_eq_zero_iff.1 hl;unfold Xv;rw[List.flatten_nil,show within fr «to» []=[] from rfl,List.append_nil,List.take_of_length_le ha]
 |x::kids,[],b,hl,_,_,_=>by simp at hl
 |x::kids,p::parts,b,hl,ha,hr,h=>by
  obtain⟨h0,y,r,u,B⟩:=h 0 (by rw[List.length_cons];omega);have u:p=y::r:=u;have B:x.k=y.k:=B;have h0:∀b:List Qg,b.length<=most->f x.a b=((b++within fr «to» p).take most,0):=h0;unfold Xv;by_cases e:«to».less x.k=true
  ·rw[if_pos (.inl e)];have:within fr «to» (p::parts).flatten=[]:=q4h λz m=>.inr (by
    have d:z=y\/y.k.less z.k=true:=by
     rw[List.flatten_cons,u,List.cons_append] at m hr;rcases List.mem_cons.1 m with rfl|m
     ·exact .inl rfl
     ·exact .inr ((List.pairwise_cons.1 hr).1 z m)
    rw[B] at e;rcases d with rfl|d
    ·exact e
    ·exact Kd.trans _ _ _ e d)
   rw[this,List.append_nil,List.take_of_length_le ha]
  ·by_cases hm:most<=b.length
   ·rw[if_pos (.inr hm),q4i hm,List.take_of_length_le ha]
   ·rw[if_neg (by rintro (h|h);exact e h;exact hm h),h0 b ha];dsimp only;rw[if_neg (by simp),qgm kids parts _ (by simpa using hl) (by rw[List.length_take];omega) (by
     rw[List.flatten_cons] at hr;exact (List.pairwise_append.1 hr).2.1) λj G=>?_]
    ·have:within fr «to» (p::parts).flatten=within fr «to» p++within fr «to» parts.flatten:=by unfold within;rw[List.flatten_cons,List.filter_append]
     rw[this,q99,List.append_assoc]
    ·obtain⟨h1,z,s,D,E⟩:=h (j+1) (by rw[List.length_cons];omega);rw[getD_cons_succ] at h1 D;have F:Qh (x::kids) (j+1)=Qh kids j:=by unfold Qh;rw[getD_cons_succ]
     rw[F] at h1 E;exact⟨h1,z,s,D,E⟩
theorem qgn {α:Type}(l:List α)(n j:Nat)(d:α):(l.drop n).getD j d=l.getD (n+j) d:=by
 rw[List.getD_eq_getElem?_getD,List.getD_eq_getElem?_getD,List.getElem?_drop]
theorem qcw {R:Int->Nd × Int}(fr «to»:Kd)(most:Nat):∀(l:Nat) (a:Int) (its b:List Qg),Qi R l a its->Qk its->b.length<=most->Jp R fr «to» most l a b=((b++within fr «to» its).take most,0)
 |0,a,its,b,h,hr,u=>by
  obtain⟨h1,_⟩:=h;unfold Jp;rw[h1];dsimp only;rw[if_neg (by simp),if_neg (by simp)]
 |l+1,a,its,b,h,hr,u=>by
  obtain⟨kids,parts,h1,h2,J,rfl,H⟩:=h;have Q:(⟨((l+1:Nat):Int),[],kids⟩:Nd).Zb fr=lastTo (kids.map (·.k)) fr kids.length:=by
   unfold Nd.Zb;have:¬((l+1:Nat):Int)=0:=by omega
   dsimp only;rw[if_neg this,q5c,List.length_map]
  obtain⟨n,hn⟩:∃n,lastTo (kids.map (·.k)) fr kids.length=n:=⟨_,rfl⟩;have W:0<kids.length:=List.length_pos_iff.2 h2;have m:n<kids.length:=by
   rcases q7n (kids.map (·.k)) fr kids.length with e|e<;>omega
  unfold Jp;rw[h1];dsimp only;rw[if_neg (by simp),if_neg (by simp),Q,hn];have d:parts.flatten=(parts.take n).flatten++(parts.drop n).flatten:=by rw[<-List.flatten_append,List.take_append_drop]
  have f:within fr «to» (parts.take n).flatten=[]:=q4h λx U=>.inl (by
   obtain⟨p,O,F⟩:=List.mem_flatten.1 U;obtain⟨q,P,e⟩:=List.getElem_of_mem O;have E:q<n:=by rw[List.length_take] at P;omega
   have G:x∈parts.getD q []:=by
    rw[List.getElem_take] at e;rw[List.getD_eq_getElem?_getD,List.getElem?_eq_getElem (by omega),e];exact F
   obtain⟨_,z,s,y,B⟩:=H n m;have D:x.k.less z.k=true:=q5y hr E (by omega) G (by rw[y];exact List.mem_cons_self ..);have K:fr.less z.k=false:=by
    have:=q5x (kids.map (·.k)) fr kids.length (by omega);rw[hn,q5d kids m,B] at this;exact this
   exact qdi D K)
  have T:within fr «to» parts.flatten=within fr «to» (parts.drop n).flatten:=by
   have:within fr «to» parts.flatten=within fr «to» (parts.take n).flatten++within fr «to» (parts.drop n).flatten:=by
    conv=>lhs;rw[d]
    unfold within;rw[List.filter_append]
   rw[this,f,List.nil_append]
  rw[T];refine qgm (kids.drop n) (parts.drop n) b (by rw[List.length_drop,List.length_drop,J]) u ?_ λj M=>?_
  ·rw[d] at hr;exact (List.pairwise_append.1 hr).2.1
  ·rw[List.length_drop] at M;have I:Qh (kids.drop n) j=Qh kids (n+j):=by unfold Qh;rw[qgn]
   rw[I,qgn];obtain⟨D,z,s,y,B⟩:=H (n+j) (by omega);exact⟨λb u=>qcw fr «to» most l _ _ b D (q5z hr (n+j)) u,z,s,y,B⟩
theorem qn9 {l:List Qg}(h:∀x∈l,x.k.may=true):within ⟨0,0,0⟩ ⟨2147483647,255,2147483647⟩ l=l:=by
 unfold within;rw[List.filter_eq_self];intro x e;have h1:=of_decide_eq_true (h x e);have b:x.k.less ⟨0,0,0⟩=false:=by
  unfold Kd.less;dsimp only;split
  ·split
   ·exact decide_eq_false (by omega)
   ·exact decide_eq_false (by omega)
  ·exact decide_eq_false (by omega)
 have d:(⟨2147483647,255,2147483647⟩:Kd).less x.k=false:=by
  unfold Kd.less;dsimp only;split
  ·split
   ·exact decide_eq_false (by omega)
   ·exact decide_eq_false (by omega)
  ·exact decide_eq_false (by omega)
 rw[b,d];rfl
theorem qus (x y:Operand)(xs ys:Array Value)(w:World):(eqGuard .neq 45 x y (.agg xs) (.agg ys)).run Tryz.prog w=.ok () w:=
 run_eqGuard_agg w .neq 45 x y xs ys (by kernel_rfl)
theorem qut (a:Kd)(w:World)(d:Nat):(Op.equalIn (d+2) 45 (.agg #[.int .i64 a.obj,.int .i64 a.kind,.int .i64 a.off]) (.agg #[.int .i64 a.obj,.int .i64 a.kind,.int .i64 a.off])).run Tryz.prog w=.ok true w:=by
 rw[run_equalIn_agg w (d+1) 45 _ _ (by kernel_rfl) (by kernel_rfl)];unfold Program.fieldsOf;rw[Tryz.underlying45];simp[go_sem,Tryz.underlying3]
theorem qz9 (a:Kd)(w:World):(binOp .neq 45 (.agg #[.int .i64 a.obj,.int .i64 a.kind,.int .i64 a.off]) (.agg #[.int .i64 a.obj,.int .i64 a.kind,.int .i64 a.off])).run Tryz.prog w=.ok (.bool false) w:=by
 rw[run_neq_struct,qut a w 9998];rfl
section
variable {w w':World}{base n c:Nat}{A:Option Addr}{xs:List Qg}
end
theorem qxr {l:List Qg}{j:Nat}(h:j<l.length):l.drop j=Qz l j::l.drop (j+1):=by
 have b:=q1x h;rw[List.getElem?_eq_getElem h] at b;rw[<-List.getElem_cons_drop (h:=h),Option.some.inj b]
theorem q64 (l:List Qg)(A:Option Addr)(n c:Nat)(F:Option Addr)(c2:Nat)(w:World)(B:Jd w A n c l)(D:Jd w F n c2 l) :
  Calls Tryz.prog 36 #[.slice A n c,.slice F n c2] w λe w'=>e=.returned (.bool true)/\Below w.1.size w w':=by
 have hg:=qus;obtain⟨Z,E⟩:=B.bounds;unfold maxLen at E;go_enter Tryz.func36,Tryz.ntmps36
 go_wp2_with fail
 have M:=Lib.hid B.len;go_loopw [5] (λi wr=>∃j:Nat,j<=n/\i=.int .i64 (j:Int)/\Below w.1.size w wr) (λi _=>n-(intOf i).toNat)
 case atStart=>exact⟨0,Nat.zero_le _,rfl,Below.refl _ _⟩
 case round=>
  obtain⟨j,hj,rfl,m⟩:=hrel;by_cases d:j<n
  ·obtain⟨g,o,B',m',d',Y,a4,O,P,Q,a3,b⟩:=(B.below m).cell d;obtain⟨g2,o2,K,a8,R,u,a5,T,U,W,e3,p⟩:=(D.below m).cell d;subst Y u;obtain⟨x,H⟩:∃x,Qz l j=x:=⟨_,rfl⟩;rw[H] at O P Q b T U W p;clear H;obtain⟨X,G⟩:∃X,(⟨x.v.toArray⟩:ByteArray)=X:=⟨_,rfl⟩;have I:=λk=>Qcq (b.drewN k)
   have J:=λk=>Qcq (p.drewN k)
   rw[G] at I J;have hq:=qz9 x.k;have a6:(0:Int)<=(j:Int):=by omega
   have a7:(j:Int)<(n:Int):=by omega
   clear b p G;go_wp2_with fail
   go_quiet (fail)
   generalize f:World.drewN wr _=w5;have y:Below w.1.size w w5:=by rw[<-f];exact q1f m _
   clear f I J;go_wp2;exact⟨⟨j+1,by omega,by go_num,y⟩,by simp[intOf];omega⟩
  ·obtain rfl:n=j:=by omega
   go_wp2;go_ret;exact⟨rfl,m⟩
