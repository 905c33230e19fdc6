/- What is told of a tree from its root on -/
import Derived.Test.YtnnbaihfboacoaaGreatDoorEt22
import Derived.Test.YtnnbaihfboacoaaGreatDoorFeAv1
import Derived.Test.YtnnbaihfboacoaaGreatDoorEt33
import Derived.Test.YtnnbaihfboacoaaGreatDoorEt35
namespace Go.Proofs.YtnnbaihfboacoaaGreatDoor
open Go Go.RowKit Go.Proofs
set_option maxHeartbeats 16000000
set_option maxRecDepth 100000
def Af (R:Int->Nd × Int)(fr «to»:Kd)(most root:Int):List Qc × Int:=if root=0\/most<1 then ([],0) else Js R fr «to» most.toNat (Ub R root) root []
theorem qqg {R:Int->Nd × Int}{root:Int}{its:List Qc}(h:Zb R root its)(b:Qd its)(fr «to»:Kd)(most:Int):Af R fr «to» most root=((within fr «to» its).take most.toNat,0):=by
 unfold Af;rcases h with⟨rfl,rfl⟩|⟨l,_,h,h1,_⟩
 ·rw[if_pos (.inl rfl)];simp[within]
 ·by_cases hm:most<1
  ·rw[if_pos (.inr hm),show most.toNat=0 by omega,List.take_zero]
  ·rw[if_neg (by omega),(Fq h).1,qd0 fr «to» _ l root its [] h b (Nat.zero_le _),List.nil_append]
def Gv («to»:Kd)(most:Nat):List Qc->List Qc->List Qc
 |[],acc=>acc
 |x::r,acc=>if «to».less x.k=true\/most<=acc.length then acc else Gv «to» most r (acc++[x])
theorem qd1 {fr «to»:Kd}{most:Nat}:∀(r b:List Qc),Qd r->(∀x∈r,x.k.less fr=false)->b.length<=most->Gv «to» most r b=(b++within fr «to» r).take most
 |[],b,_,_,ha=>by
  show b=_;rw[show within fr «to» []=[] from rfl,List.append_nil,List.take_of_length_le ha]
 |x::r,b,hr,hf,ha=>by
  obtain⟨m,u⟩:=List.pairwise_cons.1 hr;unfold Gv;by_cases d:«to».less x.k=true
  ·rw[if_pos (.inl d),q4a λz e=>.inr (by
    rcases List.mem_cons.1 e with rfl|e
    ·exact d
    ·exact Kd.trans _ _ _ d (m z e)),List.append_nil,List.take_of_length_le ha]
  ·by_cases hm:most<=b.length
   ·rw[if_pos (.inr hm),q4b hm,List.take_of_length_le ha]
   ·rw[if_neg (by rintro (h|h);exact d h;exact hm h),qd1 r _ u (λy f=>hf y (List.mem_cons_of_mem _ f)) (by rw[List.length_append,List.length_singleton];omega)];have:within fr «to» (x::r)=x::within fr «to» r:=by
     unfold within;rw[List.filter_cons,hf x (List.mem_cons_self ..),if_pos (by simp;simpa using d)]
    rw[this,List.append_assoc];rfl
theorem qqh {its:List Qc}(H:Qd its)(fr «to»:Kd){most:Nat}(d:List Qc)(E:d.length<=most):Gv «to» most (its.drop (lead (its.map (·.k)) fr)) d=(d++within fr «to» its).take most:=by
 obtain⟨j,A⟩:∃j,lead (its.map (·.k)) fr=j:=⟨_,rfl⟩;have G:j<=its.length:=by have:=qb2 (its.map (·.k)) fr;rw[List.length_map] at this;omega
 have e:∀q (u:q<its.length),Qj its q=its[q]:=λq u=>by unfold Qj;rw[List.getD_eq_getElem?_getD,List.getElem?_eq_getElem u];rfl
 have h1:within fr «to» (its.take j)=[]:=q4a λx f=>.inl (by
  obtain⟨q,u,D⟩:=List.getElem_of_mem f;rw[List.length_take] at u;have:=q6b (its.map (·.k)) fr q (by omega);rw[q18 its (by omega),e q (by omega)] at this;rw[<-D,List.getElem_take];exact this)
 have h2:within fr «to» its=within fr «to» (its.drop j):=by
  conv=>lhs;rw[<-List.take_append_drop j its]
  have:within fr «to» (its.take j++its.drop j)=within fr «to» (its.take j)++within fr «to» (its.drop j):=by unfold within;rw[List.filter_append]
  rw[this,h1,List.nil_append]
 rw[A,h2];have m:Qd (its.drop j):=by
  have:Qd (its.take j++its.drop j):=by rw[List.take_append_drop];exact H
  exact (List.pairwise_append.1 this).2.1
 refine qd1 _ d m (λx f=>?_) E;by_cases b:j<its.length
 ·have y:(Qj its j).k.less fr=false:=by
   have:=qb3 (its.map (·.k)) fr (by rw[A,List.length_map];exact b);rwa [A,q18 its b] at this
  rw[List.drop_eq_getElem_cons b] at f m;rcases List.mem_cons.1 f with rfl|f
  ·rw[<-e j b];exact y
  ·have B:=(List.pairwise_cons.1 m).1 x f;rw[<-e j b] at B
   cases F:x.k.less fr with
   |false=>rfl
   |true=>rw[Kd.trans _ _ _ B F] at y;cases y
 ·rw[List.drop_eq_nil_of_le (by omega)] at f
  cases f
theorem qy5 {w:World}{vb:Nat}{A:Option Addr}{n c:Nat}{t:TypeId}(y:w.1[vb]?=some (.cells #[.slice A n c] t (0,0))){V:Option Addr}{p q:Nat}{x:List UInt8}(h:Sl w V p q x)(B:x≠[]):∀k,q01 V=some k->k≠vb:=λk b e=>by
 subst e;have u:0<x.length:=List.length_pos_iff.2 B;obtain⟨d,f,E,m⟩:=h.2.2.2 0 (bv x[0]) (by rw[List.getElem?_map,List.getElem?_eq_getElem u];rfl);rw[f] at b;have b:d.block=k:=Option.some.inj b;have h1:w.1[(d.add 0).block]?=some (.cells #[.slice A n c] t (0,0)):=by rw[q0n,b];exact y
 have h2:=qhv h1 m;obtain⟨z,D⟩:∃z,(d.add 0).off=z:=⟨_,rfl⟩;rw[D] at h2;match z,h2 with
 |0,h2=>injection h2 with h2;cases h2
 |z+1,h2=>simp at h2
theorem qqi {w w':World}{base vb n c G c2:Nat}{A y:Option Addr}{t:TypeId}{xs:List Qc}(h:J4 w base A n c xs)(F:w.1[vb]?=some (.cells #[.slice y G c2] t (0,0)))(D:∀k,q01 A=some k->k≠vb)(T:Turn (λk=>k=vb) w w'):J4 w' base A n c xs:=by
 obtain⟨m,h1,h2,B⟩:=h;refine⟨m,h1.turned T (λk b=>D k b),h2,λj r x E f=>?_⟩;obtain⟨V,p,q,e,u,d⟩:=B j r x E f;exact⟨V,p,q,e,u.turned' T (λf k b=>qy5 F u f k b),d⟩
theorem qax {w:World}{lim base vb mb tb:Nat}{most:Int}{«to»:Kd}{A:Option Addr}{b:List Qc}(h:Lc w lim base vb mb tb most «to» A b)(k:Kd)(r:Bool)(d:(decide ((b.length:Int)<most)&&!(«to».less k))=r) :
  Calls Tryz.prog 43 #[.agg #[.int .i64 k.obj,.int .i64 k.kind,.int .i64 k.off],.pointer (some ⟨vb,0,none⟩),.pointer (some ⟨mb,0,none⟩),.pointer (some ⟨tb,0,none⟩)] w λe F=>e=.returned (.bool r)/\Below w.1.size w F:=by
 obtain⟨u,f⟩:=Xb w k;have h1:=h.below f;obtain⟨⟨t,c,y,-⟩,⟨O,hm⟩,m,-,-⟩:=h1;have c0:=cell_of_one y;have c1:=cell_of_one hm;have G:=u.c0;have H:=u.c1;have I:=u.c2;have J:=m.c0;have K:=m.c1;have M:=m.c2;clear y hm m h;by_cases hn:(b.length:Int)<most
 ·rw[decide_eq_true hn,Bool.true_and] at d;have B:=Lib.hid (qku «to» k (w.alloc (.cells #[.int .i64 k.obj,.int .i64 k.kind,.int .i64 k.off] 30)));have D:=Lib.hid d;clear d;go_enter Tryz.func43,Tryz.ntmps43
  go_wp2_with fail
  refine B.out.mono ?_;rintro e P ⟨rfl,E⟩;go_wp2_with fail
  go_ret;exact⟨by rw[<-D.out];rfl,f.trans (E.mono f.size)⟩
 ·rw[decide_eq_false hn,Bool.false_and] at d;subst d;go_enter Tryz.func43,Tryz.ntmps43
  go_wp2_with fail
  go_ret;exact⟨rfl,f⟩
theorem qqj {w:World}{lim base vb mb tb:Nat}{most:Int}{«to»:Kd}{A:Option Addr}{d:List Qc}(h:Lc w lim base vb mb tb most «to» A d)(x:Qc)(V:Option Addr)(p q:Nat)(hs:Sl w V p q x.v)(hV:x.v≠[]->∀g,q01 V=some g->lim<=g/\q01 A≠some g)(hn:d.length<=100000) :
  Calls Tryz.prog 46 #[.agg #[.int .i64 x.k.obj,.int .i64 x.k.kind,.int .i64 x.k.off,.slice V p q],.pointer (some ⟨vb,0,none⟩)] w λe w'=>e=.returned (.tuple #[])/\∃G,Lc w' lim base vb mb tb most «to» G (d++[x])/\Turn (λk=>k=vb\/q01 A=some k) w w'/\∀k,q01 G=some k->q01 A=some k\/w.1.size<=k:=by
 have H:Below w.1.size w ((w.alloc (.cells #[.int .i64 x.k.obj,.int .i64 x.k.kind,.int .i64 x.k.off,.slice V p q] 68)).alloc (.cells #[.int .i64 x.k.obj,.int .i64 x.k.kind,.int .i64 x.k.off,.slice V p q] 68)):=(Qm).alloc (by simp) _;have b0:Below w.1.size w (w.alloc (.cells #[.int .i64 x.k.obj,.int .i64 x.k.kind,.int .i64 x.k.off,.slice V p q] 68)):=Qm;have z1:((w.alloc (.cells #[.int .i64 x.k.obj,.int .i64 x.k.kind,.int .i64 x.k.off,.slice V p q] 68)).alloc (.cells #[.int .i64 x.k.obj,.int .i64 x.k.kind,.int .i64 x.k.off,.slice V p q] 68)).1.size=w.1.size+2:=by simp
 have f:(w.alloc (.cells #[.int .i64 x.k.obj,.int .i64 x.k.kind,.int .i64 x.k.off,.slice V p q] 68)).1[w.1.size]?=some (.cells #[.int .i64 x.k.obj,.int .i64 x.k.kind,.int .i64 x.k.off,.slice V p q] 68 (0,0)):=heap_alloc_new w _;have q0:(w.alloc (.cells #[.int .i64 x.k.obj,.int .i64 x.k.kind,.int .i64 x.k.off,.slice V p q] 68)).cell? ⟨w.1.size,0,none⟩=some (.int .i64 x.k.obj):=by rw[cell_of_row _ _ _ _ _ _ f];rfl
 have q1:(w.alloc (.cells #[.int .i64 x.k.obj,.int .i64 x.k.kind,.int .i64 x.k.off,.slice V p q] 68)).cell? ⟨w.1.size,1,none⟩=some (.int .i64 x.k.kind):=by rw[cell_of_row _ _ _ _ _ _ f];rfl
 have q2:(w.alloc (.cells #[.int .i64 x.k.obj,.int .i64 x.k.kind,.int .i64 x.k.off,.slice V p q] 68)).cell? ⟨w.1.size,2,none⟩=some (.int .i64 x.k.off):=by rw[cell_of_row _ _ _ _ _ _ f];rfl
 have q3:(w.alloc (.cells #[.int .i64 x.k.obj,.int .i64 x.k.kind,.int .i64 x.k.off,.slice V p q] 68)).cell? ⟨w.1.size,3,none⟩=some (.slice V p q):=by rw[cell_of_row _ _ _ _ _ _ f];rfl
 have D:Jf ((w.alloc (.cells #[.int .i64 x.k.obj,.int .i64 x.k.kind,.int .i64 x.k.off,.slice V p q] 68)).alloc (.cells #[.int .i64 x.k.obj,.int .i64 x.k.kind,.int .i64 x.k.off,.slice V p q] 68)) 4 (some ⟨w.1.size+1,0,none⟩) 1 1 [Yi x.k V p q]:=by
  have:=(q1q (w.alloc (.cells #[.int .i64 x.k.obj,.int .i64 x.k.kind,.int .i64 x.k.off,.slice V p q] 68)) 68 4 (Yi x.k V p q) _ rfl rfl).Vs (by omega);rwa [World.size_alloc] at this
 obtain⟨⟨t,c,hv,row,B⟩,⟨t2,hm⟩,u,P,⟨l1,l2,l3,l4,l5,l6⟩⟩:=h;have X:=Wi hv;have a2:=Wi hm;have a1:=u.lt;have c0:=cell_of_one ((b0.block vb X).trans hv);have W:=(H.block vb X).trans hv;have Q:=(H.block mb a2).trans hm;have M:=u.below H a1;have Z:=row.below H;have K:∀k,q01 A=some k->base<=k/\k<w.1.size:=λk m=>⟨B k m,(row.Qa k m).2⟩
 have a7:=hs.below H;clear row hv hm u hs f;go_enter Tryz.func46,Tryz.ntmps46
 go_wp2_with (first
  |(at_builtin;refine q60 rfl _ _ rfl lim A d.length c d rfl Z (some ⟨w.1.size+1,0,none⟩) 1 x V p q rfl D a7 hV hn (by omega) ?_)
  |fail)
 intro G c6 w3 Y I E;have F:∀b,b<base->¬q01 A=some b:=λb hb h=>by have:=(K b h).1;omega
 have y:=(I.block vb (by omega) (F vb l1)).trans W;have h3:=cell_of_one y;have f3:=free_of_one y;have a6:∀k,q01 G=some k->k≠vb:=λk m e=>by
  rcases E with h|h
  ·rw[h] at m;have:=(K k m).1;omega
  ·rw[h] at m;have:=Option.some.inj m;omega
 have J:Turn (λk=>k=vb) w3 (w3.setCell ⟨vb,0,none⟩ (.slice G (d.length+1) c6)):=Ez (a:=⟨vb,0,none⟩) _ rfl;have z3:=I.size;have T:=(I.block mb (by omega) (F mb l2)).trans Q;have O:=M.keep (I.block tb (by omega) (F tb l3));have U:=Wi T;clear c0 q0 q1 q2 q3 D Q M W;go_wp2;go_end0
 have e:(d++[x]).length=d.length+1:=by simp
 refine⟨rfl,G,⟨⟨t,c6,by rw[e];exact one_setCell y,by rw[e];exact qqi Y y a6 J,λk m=>?_⟩,⟨t2,(J.block mb U l5).trans T⟩,O.keep (J.block tb O.lt l6),P,⟨l1,l2,l3,by have:=J.size;omega,l5,l6⟩⟩,((Qv (S:=λk=>k=vb\/q01 A=some k) H).trans I (λk h=>.inl (.inr h))).trans J (λk h=>.inl (.inl h)),λk m=>?_⟩
 ·rcases E with h|h
  ·exact B k (h▸m)
  ·rw[h] at m;have:=Option.some.inj m;omega
 ·rcases E with h|h
  ·exact .inl (h▸m)
  ·rw[h] at m;have:=Option.some.inj m;exact .inr (by omega)
def Vx (R:Int->Nd × Int)(fr «to»:Kd)(most:Nat):Nat->Nd->List Qc->List Qc × Int
 |0,M,acc=>((acc++within fr «to» M.items).take most,0)
 |l+1,M,acc=>Yd (Js R fr «to» most l) «to» most (M.kids.drop (M.Za fr)) acc
theorem q9b {R:Int->Nd × Int}{fr «to»:Kd}{most:Nat}{a:Int}{M:Nd}(h:R a=(M,0))(b:List Qc):∀{l:Nat},M.lvl=(l:Int)->Js R fr «to» most l a b=Vx R fr «to» most l M b
 |0,hl=>by
  unfold Js Vx;rw[h];dsimp only;rw[if_neg (by simp),if_neg (by simpa using hl)]
 |l+1,hl=>by
  unfold Js Vx;rw[h];dsimp only;rw[if_neg (by simp),if_neg (by simpa using hl)]
theorem q71 {R:Int->Nd × Int}{fr «to»:Kd}{most:Nat}{a:Int}(h:(R a).2≠0)(b:List Qc):∀l:Nat,Js R fr «to» most l a b=([],(R a).2)
 |0=>by unfold Js;rw[if_pos h]
 |l+1=>by unfold Js;rw[if_pos h]
theorem qay {R:Int->Nd × Int}{fr «to»:Kd}{most:Nat}{a:Int}(h:(R a).2=0)(b:List Qc):∀{l:Nat},(R a).1.lvl≠(l:Int)->Js R fr «to» most l a b=([],5)
 |0,hl=>by unfold Js;rw[if_neg (by simpa using h),if_pos (by simpa using hl)]
 |l+1,hl=>by unfold Js;rw[if_neg (by simpa using h),if_pos hl]
theorem qd2 {f:Int->List Qc->List Qc × Int}{«to»:Kd}{most:Nat}:∀(kids:List Ql) (b:List Qc),(Yd f «to» most kids b).2≠0->(Yd f «to» most kids b).1=[]
 |[],b,h=>absurd rfl h
 |x::r,b,h=>by
  unfold Yd at h ⊢;by_cases d:«to».less x.k=true\/most<=b.length
  ·rw[if_pos d] at h;exact absurd rfl h
  ·rw[if_neg d] at h ⊢;by_cases h1:(f x.a b).2=0
   ·rw[if_neg (by simpa using h1)] at h ⊢;exact qd2 r _ h
   ·rw[if_pos h1]
theorem qmn {R:Int->Nd × Int}{fr «to»:Kd}{most:Nat}:∀(l:Nat) (M:Nd) (b:List Qc),(Vx R fr «to» most l M b).2≠0->(Vx R fr «to» most l M b).1=[]
 |0,_,_,h=>absurd rfl h
 |_+1,_,_,h=>qd2 _ _ h
def Ja (R:Int->Nd × Int):Nat->Int->Nat
 |0,a=>if (R a).2≠0 then 0 else (R a).1.items.length
 |l+1,a=>if (R a).2≠0 then 0 else ((R a).1.kids.map λx=>Ja R l x.a).sum
def U1 (R:Int->Nd × Int):Nat->Nd->Nat
 |0,M=>M.items.length
 |l+1,M=>(M.kids.map λx=>Ja R l x.a).sum
theorem q3t {R:Int->Nd × Int}{a:Int}{M:Nd}(h:R a=(M,0)):∀l,Ja R l a=U1 R l M
 |0=>by unfold Ja U1;rw[h];dsimp only;rw[if_neg (by simp)]
 |l+1=>by unfold Ja U1;rw[h];dsimp only;rw[if_neg (by simp)]
theorem qkp (l:List Nat):∀n,(l.drop n).sum<=l.sum:=λn=>by
 conv=>rhs;rw[<-List.take_append_drop n l]
 rw[List.sum_append];omega
theorem qgs {f:Int->List Qc->List Qc × Int}{«to»:Kd}{most:Nat}{cnt:Int->Nat}(e:∀x b,b.length<=most->(f x b).2=0->(f x b).1.length<=most/\(f x b).1.length<=b.length+cnt x) :
  ∀(kids:List Ql) (b:List Qc),b.length<=most->(Yd f «to» most kids b).2=0->(Yd f «to» most kids b).1.length<=most/\(Yd f «to» most kids b).1.length<=b.length+(kids.map λx=>cnt x.a).sum
 |[],b,ha,_=>by
  unfold Yd;exact⟨ha,by simp⟩
 |x::r,b,ha,h0=>by
  unfold Yd at h0 ⊢;by_cases d:«to».less x.k=true\/most<=b.length
  ·rw[if_pos d];exact⟨ha,by simp⟩
  ·rw[if_neg d] at h0 ⊢;by_cases h1:(f x.a b).2=0
   ·rw[if_neg (by simpa using h1)] at h0 ⊢;obtain⟨m,y⟩:=e x.a b ha h1;obtain⟨u,A⟩:=qgs e r _ m h0;refine⟨u,?_⟩;rw[List.map_cons,List.sum_cons];omega
   ·rw[if_pos h1] at h0;exact absurd h0 h1
theorem qgt {R:Int->Nd × Int}{fr «to»:Kd}{most:Nat}:∀(l:Nat) (a:Int) (b:List Qc),b.length<=most->(Js R fr «to» most l a b).2=0->(Js R fr «to» most l a b).1.length<=most/\(Js R fr «to» most l a b).1.length<=b.length+Ja R l a
 |0,a,b,ha,h0=>by
  by_cases h1:(R a).2=0
  ·by_cases h2:(R a).1.lvl=0
   ·have d:R a=((R a).1,0):=Prod.ext rfl h1;rw[q9b d b (l:=0) (by simpa using h2),q3t d];unfold Vx U1;dsimp only;have:(within fr «to» (R a).1.items).length<=(R a).1.items.length:=List.length_filter_le ..;rw[List.length_take,List.length_append];omega
   ·rw[qay h1 b (l:=0) (by simpa using h2)] at h0
    cases h0
  ·rw[q71 h1] at h0;exact absurd h0 h1
 |l+1,a,b,ha,h0=>by
  by_cases h1:(R a).2=0
  ·by_cases h2:(R a).1.lvl=((l+1:Nat):Int)
   ·have d:R a=((R a).1,0):=Prod.ext rfl h1;rw[q9b d b h2] at h0 ⊢;rw[q3t d];unfold Vx at h0 ⊢;obtain⟨e,f⟩:=qgs (cnt:=Ja R l) (λx b m h=>qgt l x b m h) _ _ ha h0;refine⟨e,Nat.le_trans f ?_⟩;show _<=b.length+((R a).1.kids.map λx=>Ja R l x.a).sum;rw[List.map_drop];have:=qkp ((R a).1.kids.map λx=>Ja R l x.a) ((R a).1.Za fr);omega
   ·rw[qay h1 b h2] at h0
    cases h0
  ·rw[q71 h1] at h0;exact absurd h0 h1
theorem qgu (f:Ql->Nat):∀(kids:List Ql) (parts:List (List Qc)),parts.length=kids.length->(∀j,j<kids.length->f (Qg kids j)<=(parts.getD j []).length)->(kids.map f).sum<=parts.flatten.length
 |[],parts,_,_=>by simp
 |x::r,[],h,_=>by simp at h
 |x::r,p::ps,h,hf=>by
  rw[List.map_cons,List.sum_cons,List.flatten_cons,List.length_append];have h0:=hf 0 (by simp);have h0:f x<=p.length:=h0;have:=qgu f r ps (by simpa using h) λj d=>by
   have:=hf (j+1) (by simpa using d);rw[getD_cons_succ] at this;have b:Qg (x::r) (j+1)=Qg r j:=by unfold Qg;rw[getD_cons_succ]
   rwa [b] at this
  omega
theorem qd3 {R R':Int->Nd × Int}(h:Ry R R'):∀{l:Nat} {a:Int} {its:List Qc},Qp R l a its->Ja R' l a<=its.length
 |0,a,its,hh=>by
  rcases h a (by rw[hh.1]) with e|e
  ·unfold Ja;rw[e,hh.1];simp
  ·unfold Ja;rw[if_pos (by rw[e];decide)];omega
 |l+1,a,its,hh=>by
  obtain⟨kids,parts,h1,h2,d,rfl,f⟩:=hh;rcases h a (by rw[h1]) with e|e
  ·have b:R' a=(⟨((l+1:Nat):Int),[],kids⟩,0):=e.trans h1;rw[q3t b];unfold U1;exact qgu _ kids parts d λj m=>qd3 h (f j m).1
  ·unfold Ja;rw[if_pos (by rw[e];decide)];omega
theorem qqk (R:Int->Nd × Int):Ry R R:=λ_ _=>.inl rfl
theorem qmo {R R':Int->Nd × Int}(b:Ry R R'){root:Int}{its:List Qc}(h:Zb R root its)(h0:root≠0):Ja R' (Ub R' root) root<=its.length:=by
 rcases h with⟨rfl,rfl⟩|⟨l,_,h,h1,_⟩
 ·exact absurd rfl h0
 ·obtain⟨d,u,f⟩:=Fq h;rcases b root f with e|e
  ·have:Ub R' root=l:=by unfold Ub;rw[e];exact d
   rw[this];exact qd3 b h
  ·generalize Ub R' root=m
   cases m with
   |zero=>unfold Ja;rw[if_pos (by rw[e];decide)];omega
   |succ m=>unfold Ja;rw[if_pos (by rw[e];decide)];omega
theorem qu6 (R:Int->Nd × Int)(fr «to»:Kd)(most:Nat){l:Nat}{L:Int}(u:L=((l+1:Nat):Int))(x:Int)(b:List Qc) :
  (Ap R L x≠0/\Js R fr «to» most l x b=([],Ap R L x))\/(Ap R L x=0/\R x=(Dl R L x,0)/\(Dl R L x).lvl=(l:Int)/\Js R fr «to» most l x b=Vx R fr «to» most l (Dl R L x) b):=by
 by_cases h1:(R x).2=0
 ·have d:Ap R L x=if (R x).1.lvl≠L-1 then 5 else 0:=if_neg (by simpa using h1)
  have e:Dl R L x=if (R x).1.lvl≠L-1 then Jh else (R x).1:=if_neg (by simpa using h1)
  by_cases h2:(R x).1.lvl=L-1
  ·rw[if_neg (by simpa using h2)] at d e;have m:(R x).1.lvl=(l:Int):=by omega
   have f:R x=((R x).1,0):=Prod.ext rfl h1;rw[d,e];exact .inr ⟨rfl,f,m,q9b f b m⟩
  ·rw[if_pos h2] at d;rw[d];exact .inl ⟨by omega,qay h1 b (λh=>h2 (by omega))⟩
 ·have d:Ap R L x=(R x).2:=if_pos h1;rw[d];exact .inl ⟨h1,q71 h1 b l⟩
theorem qu7 {l:List Ql}{j:Nat}(h:j<l.length):l.drop j=Qg l j::l.drop (j+1):=by
 have b:=Rf h;rw[List.getElem?_eq_getElem h] at b;rw[<-List.getElem_cons_drop (h:=h),Option.some.inj b]
def Vo (vb:Nat)(A:Option Addr):Nat->Prop:=λk=>k=vb\/q01 A=some k
theorem qmp {p:Nat}(fr «to»:Kd)(most:Int){lim base vb mb tb:Nat}(w:World)(M:Nd)(lo hi:Nat)(J:Option Addr)(B c1:Nat)(K:Option Addr)(U P:Nat)(A:Option Addr)(m:List Qc)
  (S:Lc w lim base vb mb tb most «to» A m) (Hd:Held w lo hi J B c1 K U P M) (W:∀k,lo<=k->k<hi->¬Vo vb A k) (d2:lim<=lo) (Y:M.may=true) (hl:M.lvl=0) (ha:m.length<=most.toNat) (hc:m.length+M.items.length<=100000) :
  Calls Tryz.prog 45 #[.pointer (some ⟨p,0,none⟩),.agg #[.int .i64 M.lvl,.slice J B c1,.slice K U P],.agg #[.int .i64 fr.obj,.int .i64 fr.kind,.int .i64 fr.off],.func (.func 43) #[] #[.pointer (some ⟨vb,0,none⟩),.pointer (some ⟨mb,0,none⟩),.pointer (some ⟨tb,0,none⟩)],.func (.func 46) #[] #[.pointer (some ⟨vb,0,none⟩)]] w λe w'=>
   e=.returned (.int .i64 0)/\∃F,Lc w' lim base vb mb tb most «to» F ((m++within fr «to» M.items).take most.toNat)/\Turn (Vo vb A) w w'/\∀k,q01 F=some k->q01 A=some k\/w.1.size<=k:=by
 obtain⟨hM,Z,c9,d0⟩:=q1r Y hl;obtain⟨t,a2⟩:∃t,M.Za fr=t:=⟨_,rfl⟩;obtain⟨r,hr⟩:∃r,Vb M.keys fr t=r:=⟨_,rfl⟩;have b9:t=lead (M.items.map (·.k)) fr:=by
  rw[<-a2,hM];unfold Nd.Za;rw[if_pos rfl,q1u]
 have c6:t<=M.items.length:=by have:=qb2 (M.items.map (·.k)) fr;rw[List.length_map] at this;omega
 have hG:Gv «to» most.toNat (M.items.drop t) m=(m++within fr «to» M.items).take most.toNat:=by rw[b9];exact qqh Z fr «to» m ha
 obtain⟨G,b3⟩:∃G,(m++within fr «to» M.items).take most.toNat=G:=⟨_,rfl⟩;rw[b3] at hG ⊢;have N1:NB ((w.alloc (.cells #[.int .i64 M.lvl,.slice J B c1,.slice K U P] 75)).alloc (.cells #[.int .i64 fr.obj,.int .i64 fr.kind,.int .i64 fr.off] 30)) w.1.size M.lvl J B c1 K U P:=(NB.new w _ _ _ _ _ _ _ _).below (Qm) (by simp);have b1:Below w.1.size w ((w.alloc (.cells #[.int .i64 M.lvl,.slice J B c1,.slice K U P] 75)).alloc (.cells #[.int .i64 fr.obj,.int .i64 fr.kind,.int .i64 fr.off] 30)):=(Qm).alloc (by simp) _;have z1:((w.alloc (.cells #[.int .i64 M.lvl,.slice J B c1,.slice K U P] 75)).alloc (.cells #[.int .i64 fr.obj,.int .i64 fr.kind,.int .i64 fr.off] 30)).1.size=w.1.size+2:=by simp
 have K1:KB ((w.alloc (.cells #[.int .i64 M.lvl,.slice J B c1,.slice K U P] 75)).alloc (.cells #[.int .i64 fr.obj,.int .i64 fr.kind,.int .i64 fr.off] 30)) (w.1.size+1) fr:=KB.new2 w _ fr.obj fr.kind fr.off _;have I:M.items.length=B:=Hd.rows.1.Zq.len;have c8:∀k,Vo vb A k->k<w.1.size:=λk E=>by
  obtain⟨⟨_,_,hv,row,_⟩,_⟩:=S;rcases E with rfl|E
  ·exact Wi hv
  ·exact (row.Qa k E).2
 have S1:=S.below b1;have O:=Hd.below b1;obtain⟨r1,s1⟩:=O.rows;have a7:=Lib.hid (q22 M (Nj Y) fr t a2 r hr J B c1 K U P _ r1.Zq s1 (by have:=Hd.2.1;omega) (by have:=Hd.2.2.1;omega));have g1:(M.lvl==0)=true:=by rw[hl];rfl
 have g2:decide (M.lvl=0)=true:=decide_eq_true hl;rw[I] at c6 hc;have HG:=Lib.hid hG;have I:=Lib.hid I;have p0:=N1.c0;have p1:=N1.c1;have p2:=N1.c2;have k0:=K1.c0;have k1:=K1.c1;have k2:=K1.c2;clear hM Z c9 d0 a2 hr b9 hG b3 r1 s1 hl K1 S Hd;go_enter Tryz.func45,Tryz.ntmps45
 go_wp2_with fail
 refine a7.out.mono ?_;generalize (w.alloc (.cells #[.int .i64 M.lvl,.slice J B c1,.slice K U P] 75)).alloc (.cells #[.int .i64 fr.obj,.int .i64 fr.kind,.int .i64 fr.off] 30)=w1 at N1 b1 z1 S1 O p0 p1 p2 k0 k1 k2 ⊢;rintro e w2 ⟨rfl,b2⟩;have N2:=N1.below b2 N1.lt;have S2:=S1.below b2;have a6:=O.below b2;have B2:=b1.trans (b2.mono b1.size);have z2:=b2.size;clear p0 p1 p2 k0 k1 k2 a7 N1 S1 O b1 b2;have p0:=N2.c0;go_wp2_with fail
 clear p0;go_loopw [11] (λiv wr=>∃(j:Nat) (F:Option Addr) (d:List Qc),j<=B/\iv=.int .i64 (j:Int)/\Lc wr lim base vb mb tb most «to» F d/\Gv «to» most.toNat (M.items.drop j) d=G/\d.length+(B-j)<=100000/\Turn (Vo vb A) w2 wr/\∀k,q01 F=some k->q01 A=some k\/w2.1.size<=k) (λiv _=>B-(intOf iv).toNat)
 case atStart=>exact⟨t,A,m,c6,rfl,S2,HG.out,by omega,Turn.refl _ _,λk E=>.inl E⟩
 case round=>
  obtain⟨j,F,d,d5,rfl,S',y,d3,X,Q⟩:=hrel;have Nr:=N2.turned X (λh=>by have:=c8 _ h;omega);have Hr:=a6.turn X W;have p1:=Nr.c1;have out:d=G->∃F,Lc wr lim base vb mb tb most «to» F G/\Turn (Vo vb A) w wr/\∀k,q01 F=some k->q01 A=some k\/w.1.size<=k:=λe=>by
   refine⟨F,e▸S',(Qv (S:=Vo vb A) B2).trans X (λk h=>.inl h),λk E=>(Q k E).imp id λh=>by have:=B2.size;omega⟩
  have a8:=Lib.hid out;clear out;by_cases b8:j<B
  ·obtain⟨g,o,V,pp,qq,rfl,hg,c0,b0,c2,c3,hs,T⟩:=Hr.vals j b8;have b5:=q9w (l:=M.items) (j:=j) (by rw[I.out];exact b8);rw[b5] at y;clear b5;obtain⟨x,hx⟩:∃x,Qj M.items j=x:=⟨_,rfl⟩;rw[hx] at c0 b0 c2 hs T y;clear hx;have e0:(0:Int)<=(j:Int):=by omega
   have e1:(j:Int)<(B:Int):=by omega
   obtain⟨_,d4⟩:=Hr.rows.1.Zq.bounds;obtain⟨rr,u⟩:∃rr,(decide ((d.length:Int)<most)&&!(«to».less x.k))=rr:=⟨_,rfl⟩;have Hw:=Lib.hid (qax S' x.k rr u)
   cases rr with
   |false=>
    have f:d=G:=by
     rw[<-y];unfold Gv;rw[if_pos ?_];rw[Bool.and_eq_false_iff] at u;rcases u with h|h
     ·exact .inr (by have:=of_decide_eq_false h;omega)
     ·exact .inl (by simpa using h)
    have f:=Lib.hid f;clear y u hs T c3;go_wp2_with (first
     |(go_at_call 43;refine Hw.out.mono ?_;rintro e w4 ⟨rfl,D⟩)
     |fail)
    go_ret;obtain⟨A9,S9,X9,h9⟩:=a8.out f.out;exact⟨rfl,A9,S9.below D,X9.trans (Qv (S:=Vo vb A) D) (λk h=>.inl h),h9⟩
   |true=>
    have b6:Gv «to» most.toNat (M.items.drop (j+1)) (d++[x])=G:=by
     rw[<-y];conv=>rhs;unfold Gv
     rw[if_neg ?_];rw[Bool.and_eq_true] at u;rintro (h|h)
     ·rw[h] at u;simp at u
     ·have:=of_decide_eq_true u.1;omega
    have H:x.v≠[]->∀g,q01 V=some g->lim<=g/\q01 F≠some g:=λhv b hb=>by
     obtain⟨h1,h2⟩:=T hv b hb;refine⟨Nat.le_trans d2 h1,λh=>?_⟩;rcases Q b h with h3|h3
     ·exact W b h1 h2 (.inr h3)
     ·have:=a6.1;omega
    have c7:=Lib.hid b6;have Hs:=Lib.hid (λw4 (D:Below wr.1.size wr w4)=>qqj (S'.below D) x V pp qq (hs.below D) H (by omega));have a1:=Lib.hid (λw4 (D:Below wr.1.size wr w4)=>(⟨(D.cell (p:=⟨g,_,none⟩) hg).trans c0,(D.cell (p:=⟨g,_,none⟩) hg).trans b0,(D.cell (p:=⟨g,_,none⟩) hg).trans c2,(D.cell (p:=⟨g,_,none⟩) hg).trans c3⟩:_/\_/\_/\_));clear y u hs T b6 H;go_wp2_with (first
     |(go_at_call 43;refine Hw.out.mono ?_;rintro e w4 ⟨rfl,D⟩;obtain⟨y0,y1,y2,y3⟩:=a1.out w4 D;have q1:=(Nr.below D Nr.lt).c1)
     |(go_at_call 46;refine (Hs.out w4 D).mono ?_;rintro e w5 ⟨rfl,A5,S5,X5,h5⟩)
     |fail)
    refine⟨⟨j+1,A5,d++[x],by omega,by go_num,S5,c7.out,by simp;omega,(X.trans (Qv (S:=Vo vb A) D) (λk h=>.inl h)).trans X5 (λk E=>?_),λk E=>?_⟩,by simp[intOf];omega⟩
    ·rcases E with rfl|E
     ·exact .inl (.inl rfl)
     ·exact (Q k E).imp (λh=>.inr h) id
    ·rcases h5 k E with h|h
     ·exact Q k h
     ·exact .inr (by have:=X.size;have:=D.size;omega)
  ·have b7:j=B:=by omega
   have f:d=G:=by
    rw[<-y,List.drop_eq_nil_of_le (by rw[I.out];omega)];rfl
   have f:=Lib.hid f;have e1:¬(j:Int)<(B:Int):=by omega
   clear y b7;go_wp2_with fail
   go_ret;obtain⟨A9,S9,X9,h9⟩:=a8.out f.out;exact⟨rfl,A9,S9,X9,h9⟩
theorem qmq (f:Int->List Qc->List Qc × Int)(«to»:Kd)(most:Nat)(x:Ql)(r:List Ql)(b:List Qc):Yd f «to» most (x::r) b=if «to».less x.k=true\/most<=b.length then (b,0) else if (f x.a b).2≠0 then ([],(f x.a b).2) else Yd f «to» most r (f x.a b).1:=rfl
def qeq (F:World)(p:Nat)(R:Int->Nd × Int)(fr «to»:Kd)(most:Int)(lim base vb mb tb:Nat)(l:Nat):Prop:=
 ∀(w:World) (M:Nd) (lo y:Nat) (f:Option Addr) (D c1:Nat) (m:Option Addr) (B u:Nat) (A:Option Addr) (b:List Qc),Below F.1.size F w->Lc w lim base vb mb tb most «to» A b->Held w lo y f D c1 m B u M->(∀k,lo<=k->k<y->¬Vo vb A k)->lim<=lo->M.may=true->M.lvl=(l:Int)->b.length<=most.toNat->b.length+U1 R l M<=100000->
  Calls Tryz.prog 45 #[.pointer (some ⟨p,0,none⟩),.agg #[.int .i64 M.lvl,.slice f D c1,.slice m B u],.agg #[.int .i64 fr.obj,.int .i64 fr.kind,.int .i64 fr.off],.func (.func 43) #[] #[.pointer (some ⟨vb,0,none⟩),.pointer (some ⟨mb,0,none⟩),.pointer (some ⟨tb,0,none⟩)],.func (.func 46) #[] #[.pointer (some ⟨vb,0,none⟩)]] w λe E=>
   e=.returned (.int .i64 (Vx R fr «to» most.toNat l M b).2)/\∃d,((Vx R fr «to» most.toNat l M b).2=0->Lc E lim base vb mb tb most «to» d (Vx R fr «to» most.toNat l M b).1)/\Turn (Vo vb A) w E/\∀k,q01 d=some k->q01 A=some k\/w.1.size<=k
theorem qmr {w0:World}{p:Nat}{R:Int->Nd × Int}(H:Src w0 p R)(g6:Tab w0)(fr «to»:Kd)(most:Int){lim base vb mb tb:Nat}(j9:w0.1.size<=vb)(Y:w0.1.size=lim)(l:Nat)(e6:qeq w0 p R fr «to» most lim base vb mb tb l):qeq w0 p R fr «to» most lim base vb mb tb (l+1):=by
 intro w M lo hi A1 n1 c1 B1 I d1 A U B0 S Hd f3 k6 b0 hl ha hc;have IH:=Lib.hid e6;have e3:=Lib.hid Y;clear e6;obtain⟨-,i7,i9,i8,f9,g5⟩:=Py b0 (by rw[hl];omega);obtain⟨t,a7⟩:∃t,M.Za fr=t:=⟨_,rfl⟩;obtain⟨r,hr⟩:∃r,Vb M.keys fr t=r:=⟨_,rfl⟩;have g7:=g5 fr;rw[a7] at g7;obtain⟨G,d0⟩:∃G,Vx R fr «to» most.toNat (l+1) M U=G:=⟨_,rfl⟩;have hG:Yd (Js R fr «to» most.toNat l) «to» most.toNat (M.kids.drop t) U=G:=by rw[<-d0,<-a7];rfl
 rw[d0];have f2:U.length+((M.kids.drop t).map λx=>Ja R l x.a).sum<=100000:=by
  have h1:=qkp (M.kids.map λx=>Ja R l x.a) t;rw[<-List.map_drop] at h1;have h2:U.length+(M.kids.map λx=>Ja R l x.a).sum<=100000:=hc;omega
 have N1:NB ((w.alloc (.cells #[.int .i64 M.lvl,.slice A1 n1 c1,.slice B1 I d1] 75)).alloc (.cells #[.int .i64 fr.obj,.int .i64 fr.kind,.int .i64 fr.off] 30)) w.1.size M.lvl A1 n1 c1 B1 I d1:=(NB.new w _ _ _ _ _ _ _ _).below (Qm) (by simp);have b1:Below w.1.size w ((w.alloc (.cells #[.int .i64 M.lvl,.slice A1 n1 c1,.slice B1 I d1] 75)).alloc (.cells #[.int .i64 fr.obj,.int .i64 fr.kind,.int .i64 fr.off] 30)):=(Qm).alloc (by simp) _;have z1:((w.alloc (.cells #[.int .i64 M.lvl,.slice A1 n1 c1,.slice B1 I d1] 75)).alloc (.cells #[.int .i64 fr.obj,.int .i64 fr.kind,.int .i64 fr.off] 30)).1.size=w.1.size+2:=by simp
 have K1:KB ((w.alloc (.cells #[.int .i64 M.lvl,.slice A1 n1 c1,.slice B1 I d1] 75)).alloc (.cells #[.int .i64 fr.obj,.int .i64 fr.kind,.int .i64 fr.off] 30)) (w.1.size+1) fr:=KB.new2 w _ fr.obj fr.kind fr.off _;have k3:I<=20:=Hd.2.2.1;have Z:M.kids.length=I:=by
  have:=Jf.len Hd.rows.2;rwa [List.length_map] at this
 have d4:∀k,Vo vb A k->w0.1.size<=k/\k<w.1.size:=λk F=>by
  obtain⟨⟨_,_,hv,row,_⟩,_⟩:=S;rcases F with rfl|F
  ·exact⟨j9,Wi hv⟩
  ·exact⟨by rw[Y];exact (row.Qa k F).1,(row.Qa k F).2⟩
 clear Y;have S1:=S.below b1;have a1:=Hd.below b1;obtain⟨r1,s1⟩:=a1.rows;have e4:=Lib.hid (q22 M (Nj b0) fr t a7 r hr A1 n1 c1 B1 I d1 _ r1.Zq s1 (by have:=Hd.2.1;omega) (by have:=Hd.2.2.1;omega));have g1:(M.lvl==0)=false:=by rw[hl];simp;omega
 have g2:decide (M.lvl=0)=false:=decide_eq_false (by rw[hl];omega);rw[Z] at g7;have HG:=Lib.hid hG;have Z:=Lib.hid Z;have Hl:=Lib.hid hl;have p0:=N1.c0;have p1:=N1.c1;have p2:=N1.c2;have k0:=K1.c0;have k1:=K1.c1;have k2:=K1.c2;have z0:=B0.size;clear a7 hr g5 hG d0 r1 s1 hl S Hd hc i8 f9;go_enter Tryz.func45,Tryz.ntmps45
 go_wp2_with fail
 refine e4.out.mono ?_;generalize (w.alloc (.cells #[.int .i64 M.lvl,.slice A1 n1 c1,.slice B1 I d1] 75)).alloc (.cells #[.int .i64 fr.obj,.int .i64 fr.kind,.int .i64 fr.off] 30)=w1 at N1 b1 z1 S1 a1 K1 p0 p1 p2 k0 k1 k2 ⊢;rintro e w2 ⟨rfl,b2⟩;have N2:=N1.below b2 N1.lt;have K2:=K1.below b2 K1.lt;have S2:=S1.below b2;have g9:=a1.below b2;have B2:=b1.trans (b2.mono b1.size);have z2:=b2.size;clear p0 p1 p2 k0 k1 k2 e4 N1 S1 a1 K1 b1 b2;have p0:=N2.c0;go_wp2_with fail
 clear p0;go_loopw [11,13,14] (λiv _ _ wr=>∃(j:Nat) (A':Option Addr) (b:List Qc),j<=I/\iv=.int .i64 (j:Int)/\Lc wr lim base vb mb tb most «to» A' b/\Yd (Js R fr «to» most.toNat l) «to» most.toNat (M.kids.drop j) b=G/\b.length<=most.toNat/\b.length+((M.kids.drop j).map λx=>Ja R l x.a).sum<=100000/\Turn (Vo vb A) w2 wr/\∀k,q01 A'=some k->q01 A=some k\/w2.1.size<=k) (λiv _ _ _=>I-(intOf iv).toNat)
 case atStart=>exact⟨t,A,U,by omega,rfl,S2,HG.out,ha,f2,Turn.refl _ _,λk F=>.inl F⟩
 case round=>
  clear ha f2 HG S2;obtain⟨j,A',b,k5,rfl,S',D,ha,Q,X,c8⟩:=hrel;have Nr:=N2.turned X (λh=>by have:=(d4 _ h).2;omega);have Kr:=K2.keep (X.block _ K2.lt (λh=>by have:=(d4 _ h).2;omega));have Hr:=g9.turn X f3;have XB:Turn (Vo vb A) w wr:=(Qv (S:=Vo vb A) B2).trans X (λk h=>.inl h);have m:Below w0.1.size w0 wr:=B0.trans (XB.below (λk F=>(d4 k F).1) z0);have p2:=Nr.c2;have d9:=Lib.hid Q;clear Q;have out:G=(b,0)->∃A',Lc wr lim base vb mb tb most «to» A' G.1/\∀k,q01 A'=some k->q01 A=some k\/w.1.size<=k:=λe=>by
   refine⟨A',by rw[e];exact S',λk F=>(c8 k F).imp id λh=>by have:=B2.size;omega⟩
  have e7:=Lib.hid out;clear out;by_cases d8:j<I
  ·obtain⟨g,o,rfl,hg,c0,c6,c2,c3⟩:=Hr.rows.2.cell d8;obtain⟨_,k4⟩:=Zm.bounds Hr.rows.2;have d6:=qu7 (l:=M.kids) (j:=j) (by rw[Z.out];exact d8);rw[d6] at D;have e2:=Lib.hid d6;clear d6;have K:=Lib.hid (λw4 (E:Below wr.1.size wr w4)=>qjz H (m.trans (E.mono m.size)) (g6.below (m.trans (E.mono m.size)) g6.1) M.lvl i7 i9 M.kids A1 n1 c1 (some ⟨g,o,none⟩) I d1 (Hr.below E).rows.2 j d8 (Qg M.kids j).a rfl);obtain⟨y,hy⟩:∃y,Qg M.kids j=y:=⟨_,rfl⟩;rw[hy] at c0 c6 c2 D e2 K;clear hy c3;have e0:(0:Int)<=(j:Int):=by omega
   have e1:(j:Int)<(I:Int):=by omega
   obtain⟨rr,B⟩:∃rr,(decide ((b.length:Int)<most)&&!(«to».less y.k))=rr:=⟨_,rfl⟩;have Hw:=Lib.hid (qax S' y.k rr B)
   cases rr with
   |false=>
    as_aux_lemma=>
     have f:G=(b,0):=by
      rw[<-D];unfold Yd;rw[if_pos ?_];rw[Bool.and_eq_false_iff] at B;rcases B with h|h
      ·exact .inr (by have:=of_decide_eq_false h;omega)
      ·exact .inl (by simpa using h)
     replace f:=Lib.hid f;clear D B;go_wp2_with (first
      |(go_at_call 43;refine Hw.out.mono ?_;rintro e w4 ⟨rfl,E⟩)
      |fail)
     go_ret;obtain⟨A9,S9,h9⟩:=e7.out f.out;exact⟨by rw[f.out];rfl,A9,λ_=>S9.below E,XB.trans (Qv (S:=Vo vb A) E) (λk h=>.inl h),h9⟩
   |true=>
    as_aux_lemma=>
     have d:(if (Js R fr «to» most.toNat l y.a b).2≠0 then ([],(Js R fr «to» most.toNat l y.a b).2) else Yd (Js R fr «to» most.toNat l) «to» most.toNat (M.kids.drop (j+1)) (Js R fr «to» most.toNat l y.a b).1)=G:=by
      have j8:¬(«to».less y.k=true\/most.toNat<=b.length):=by
       rw[Bool.and_eq_true] at B;rintro (h|h)
       ·rw[h] at B;simp at B
       ·have:=of_decide_eq_true B.1;omega
      rw[<-D,qmq,if_neg j8]
     have T:=Lib.hid (qgt (R:=R) (fr:=fr) («to»:=«to») l y.a b ha);have d7:=qu6 R fr «to» most.toNat Hl.out y.a b;obtain⟨M2,d3⟩:∃M2,Dl R M.lvl y.a=M2:=⟨_,rfl⟩;obtain⟨E2,c9⟩:∃E2,Ap R M.lvl y.a=E2:=⟨_,rfl⟩;rw[d3,c9] at K;rw[d3,c9] at d7;obtain⟨F2,i6⟩:∃F2,Js R fr «to» most.toNat l y.a b=F2:=⟨_,rfl⟩;rw[i6] at d7 d T;clear d3 c9 D B;have b8:=Lib.hid (λw4 (E:Below wr.1.size wr w4)=>(⟨(E.cell (p:=⟨g,_,none⟩) hg).trans c0,(E.cell (p:=⟨g,_,none⟩) hg).trans c6,(E.cell (p:=⟨g,_,none⟩) hg).trans c2⟩:_/\_/\_));go_wp2_with (first
      |(go_at_call 43;refine Hw.out.mono ?_;rintro e w4 ⟨rfl,E⟩;have N4:=Nr.below E Nr.lt;have u0:=N4.c0;have u1:=N4.c1;have u2:=N4.c2)
      |fail)
     refine (K.out w4 E).mono ?_;rintro e P ⟨A2,n2,c7,b7,m2,d2,rfl,j7,j0,f0,f1,b5⟩;have i0:=qe8 j7 j0 f0 f1;have b6:Below P.1.size P (P.alloc (.cells #[.int .i64 0,.slice none 0 0,.slice none 0 0] 75)):=Qm;have NZ:NB (P.alloc (.cells #[.int .i64 0,.slice none 0 0,.slice none 0 0] 75)) P.1.size 0 none 0 0 none 0 0:=NB.new P _ _ _ _ _ _ _ _;have z4:=E.size;have z5:=b5.size;clear u0 u1 u2 f0 f1 K Hw b8 c0 c6 c2 p2;rcases d7 with⟨hE,hF⟩|⟨hE,hR,g0,hF⟩
     ·as_aux_lemma=>
       rw[hF] at d;rw[if_pos hE] at d;have d:=Lib.hid d;have i5:=Lib.hid hE;have g3:(E2==0)=false:=by simp[hE]
       have g4:(E2 != 0)=true:=by simp[hE]
       clear hE hF;go_wp2_with (first
        |(refine Gt rfl (.tmp 13) _ rfl P.1.size rfl M2.lvl A2 n2 c7 b7 m2 d2 rfl NZ ?_;intro w6 N6 T6)
        |fail)
       go_ret;have a2:Turn (λ_=>False) P w6:=(Qv (S:=λ_=>False) b6).trans T6 (λk h=>.inr (by have h:k=P.1.size:=h;omega));have X6:Turn (λ_=>False) wr w6:=((Qv (S:=λ_=>False) E).trans (Qv (S:=λ_=>False) b5) (λ_ h=>.inl h)).trans a2 (λ_ h=>.inl h);exact⟨by rw[<-d.out];rfl,A,λh=>absurd (by rw[<-d.out] at h;exact h) i5.out,XB.trans X6 (λ_ h=>h.elim),λk h=>.inl h⟩
     ·as_aux_lemma=>
       subst hE;have b3:((M.kids.drop j).map λx=>Ja R l x.a).sum=U1 R l M2+((M.kids.drop (j+1)).map λx=>Ja R l x.a).sum:=by
        rw[e2.out,List.map_cons,List.sum_cons,q3t hR]
       have Q:=d9.out;rw[b3] at Q;have W:=T.out;rw[q3t hR] at W;have u:=H.may y.a (by rw[hR]);rw[hR] at u;have u:M2.may=true:=u;have b9:=Lib.hid W;have HR:=Lib.hid hR;have i2:=Lib.hid g0;have HF:=Lib.hid hF;have e5:=Lib.hid d;have a8:=Lib.hid Q;clear b3 Q W hR g0 hF d T d9;go_wp2_with (first
        |(refine Gt rfl (.tmp 13) _ rfl P.1.size rfl M2.lvl A2 n2 c7 b7 m2 d2 rfl NZ ?_;intro w6 N6 T6;have v0:=N6.c0;have v1:=N6.c1;have v2:=N6.c2;have a2:Turn (λ_=>False) P w6:=(Qv (S:=λ_=>False) b6).trans T6 (λk h=>.inr (by have h:k=P.1.size:=h;omega));have X6:Turn (λ_=>False) wr w6:=((Qv (S:=λ_=>False) E).trans (Qv (S:=λ_=>False) b5) (λ_ h=>.inl h)).trans a2 (λ_ h=>.inl h);have K6:=Kr.keep (X6.block _ Kr.lt (λh=>h));have k0:=K6.c0;have k1:=K6.c1;have k2:=K6.c2)
        |fail)
       have a6:Below wr.1.size wr w6:=X6.below (λ_ h=>h.elim) (Nat.le_refl _);have g8:=m.trans (a6.mono m.size);have S6:=S'.below a6;have i1:=i0.turn a2 (λ_ _ _ h=>h);have d5:∀k,w4.1.size<=k->k<P.1.size->¬Vo vb A' k:=λk h1 h2 h=>by
        obtain⟨⟨_,_,hv,row,_⟩,_⟩:=S';rcases h with rfl|h
        ·have:=Wi hv;omega
        ·have:=(row.Qa k h).2;omega
       refine (IH.out w6 M2 w4.1.size P.1.size A2 n2 c7 b7 m2 d2 A' b g8 S6 i1 d5 (by have:=m.size;have:=e3.out;omega) u i2.out ha (by have:=a8.out;omega)).mono ?_;rw[<-HF.out];rintro e w7 ⟨rfl,A7,h7,X7,i4⟩;have z6:=a6.size;have z7:=X7.size;have zr:=X.size;have e8:Turn (Vo vb A) w2 w7:=(X.trans (Qv (S:=Vo vb A) a6) (λ_ h=>.inl h)).trans X7 (λk F=>by
        rcases F with rfl|F
        ·exact .inl (.inl rfl)
        ·exact (c8 k F).imp (λh=>.inr h) id)
       have e9:∀k,q01 A7=some k->q01 A=some k\/w2.1.size<=k:=λk F=>by
        rcases i4 k F with h|h
        ·exact c8 k h
        ·exact .inr (by omega)
       clear v0 v1 v2 k0 k1 k2;by_cases h0:F2.2=0
       ·as_aux_lemma=>
         have g3:(F2.2==0)=true:=by simp[h0]
         have g4:(F2.2 != 0)=false:=by simp[h0]
         have J:=e5.out;rw[if_neg (by simpa using h0)] at J;have O:=Lib.hid J;have h7:=h7 h0;obtain⟨q1,q2⟩:=b9.out h0;clear J h0;go_wp2_with fail
         exact⟨⟨j+1,A7,F2.1,by omega,by go_num,h7,O.out,q1,by have:=a8.out;omega,e8,e9⟩,by simp[intOf];omega⟩
       ·as_aux_lemma=>
         have g3:(F2.2==0)=false:=by simp[h0]
         have g4:(F2.2 != 0)=true:=by simp[h0]
         have J:=e5.out;rw[if_pos h0] at J;have O:=Lib.hid J;have i3:=Lib.hid h0;clear J h0 h7;go_wp2_with fail
         go_ret;exact⟨by rw[<-O.out];rfl,A,λh=>absurd (by rw[<-O.out] at h;exact h) i3.out,(Qv (S:=Vo vb A) B2).trans e8 (λ_ h=>.inl h),λk h=>.inl h⟩
  ·as_aux_lemma=>
    have f4:j=I:=by omega
    have f:G=(b,0):=by
     rw[<-D,List.drop_eq_nil_of_le (by rw[Z.out];omega)];rfl
    replace f:=Lib.hid f;have e1:¬(j:Int)<(I:Int):=by omega
    clear D f4;go_wp2_with fail
    go_ret;obtain⟨A9,S9,h9⟩:=e7.out f.out;exact⟨by rw[f.out];rfl,A9,λ_=>S9,XB,h9⟩
theorem qgv {y:World}{p:Nat}{R:Int->Nd × Int}(H:Src y p R)(m:Tab y)(fr «to»:Kd)(most:Int){lim base vb mb tb:Nat}(u:y.1.size<=vb)(b:y.1.size=lim):∀l,qeq y p R fr «to» most lim base vb mb tb l
 |0=>by
  intro w M lo P F U c1 G T I A B _ S Hd d D f Q K O;refine (qmp (p:=p) fr «to» most w M lo P F U c1 G T I A B S Hd d D f Q K O).mono ?_;rintro e W ⟨rfl,E,h1,h2,J⟩;exact⟨rfl,E,λ_=>h1,h2,J⟩
 |l+1=>qmr H m fr «to» most u b l (qgv H m fr «to» most u b l)
theorem qql {w:World}{p:Nat}{R:Int->Nd × Int}(H:Src w p R)(ht:Tab w)(root:Int)(fr «to»:Kd)(most:Int)(D:root≠0->Ja R (Ub R root) root<=100000) :
  Calls Tryz.prog 19 #[.pointer (some ⟨p,0,none⟩),.int .i64 root,.agg #[.int .i64 fr.obj,.int .i64 fr.kind,.int .i64 fr.off],.agg #[.int .i64 «to».obj,.int .i64 «to».kind,.int .i64 «to».off],.int .i64 most] w λe w'=>∃A n c,e=.returned (.tuple #[.slice A n c,.int .i64 (Af R fr «to» most root).2])/\J4 w' w.1.size A n c (Af R fr «to» most root).1/\Below w.1.size w w':=by
 obtain⟨G,b⟩:∃G,Af R fr «to» most root=G:=⟨_,rfl⟩;rw[b];unfold Af at b;obtain⟨K1,K2,b2⟩:=Qba w fr «to»;have F:Below w.1.size w (((w.alloc (.cells #[.int .i64 fr.obj,.int .i64 fr.kind,.int .i64 fr.off] 30)).alloc (.cells #[.int .i64 «to».obj,.int .i64 «to».kind,.int .i64 «to».off] 30)).alloc (.cells #[.int .i64 most] 3)):=b2.alloc (by simp;omega) _;have Q:Below ((w.alloc (.cells #[.int .i64 fr.obj,.int .i64 fr.kind,.int .i64 fr.off] 30)).alloc (.cells #[.int .i64 «to».obj,.int .i64 «to».kind,.int .i64 «to».off] 30)).1.size _ (((w.alloc (.cells #[.int .i64 fr.obj,.int .i64 fr.kind,.int .i64 fr.off] 30)).alloc (.cells #[.int .i64 «to».obj,.int .i64 «to».kind,.int .i64 «to».off] 30)).alloc (.cells #[.int .i64 most] 3)):=Qm;have u:=K1.below Q K1.lt;have P:=K2.below Q K2.lt;have V3:(((w.alloc (.cells #[.int .i64 fr.obj,.int .i64 fr.kind,.int .i64 fr.off] 30)).alloc (.cells #[.int .i64 «to».obj,.int .i64 «to».kind,.int .i64 «to».off] 30)).alloc (.cells #[.int .i64 most] 3)).1[w.1.size+2]?=some (.cells #[.int .i64 most] 3 (0,0)):=by
  have:=heap_alloc_new ((w.alloc (.cells #[.int .i64 fr.obj,.int .i64 fr.kind,.int .i64 fr.off] 30)).alloc (.cells #[.int .i64 «to».obj,.int .i64 «to».kind,.int .i64 «to».off] 30)) (.cells #[.int .i64 most] 3);rwa [World.size_alloc,World.size_alloc] at this
 have z3:(((w.alloc (.cells #[.int .i64 fr.obj,.int .i64 fr.kind,.int .i64 fr.off] 30)).alloc (.cells #[.int .i64 «to».obj,.int .i64 «to».kind,.int .i64 «to».off] 30)).alloc (.cells #[.int .i64 most] 3)).1.size=w.1.size+3:=by simp
 have c3:=cell_of_one V3;clear K1 K2 b2 Q;by_cases h0:root=0
 ·rw[if_pos (.inl h0)] at b;subst h0;subst b;go_enter Tryz.func19,Tryz.ntmps19
  go_wp2_with fail
  go_ret2;exact⟨none,0,0,rfl,O8 _ _,F⟩
 ·have g1:(root==0)=false:=by simp[h0]
  have g2:decide (root=0)=false:=decide_eq_false h0;by_cases hm:most<1
  ·rw[if_pos (.inr hm)] at b;subst b;clear h0 D;go_enter Tryz.func19,Tryz.ntmps19
   go_wp2_with fail
   go_ret2;exact⟨none,0,0,rfl,O8 _ _,F⟩
  ·rw[if_neg (by rintro (h|h);exact h0 h;exact hm h)] at b;have W:=D h0;have X:=Lib.hid (H.node _ F (ht.below F ht.1) root);have y:=H.may root;obtain⟨M,E,hR⟩:∃M E,R root=(M,E):=⟨_,_,rfl⟩;have HR:=Lib.hid hR;rw[hR] at X y;have y:E=0->M.may=true:=y;have hl:Ub R root=M.lvl.toNat:=by unfold Ub;rw[hR]
   rw[hl] at b W;clear hR hl h0 D;by_cases hE:E=0
   ·subst hE;have K:=y rfl;have b9:0<=M.lvl/\M.lvl<8:=by
     by_cases h1:M.lvl=0
     ·omega
     ·have:=Py K h1;omega
    obtain⟨l,hl⟩:∃l,M.lvl.toNat=l:=⟨_,rfl⟩;have U:M.lvl=(l:Int):=by omega
    rw[hl] at b W;rw[q9b HR.out [] U] at b;rw[q3t HR.out] at W;have Hc:=Lib.hid W;have HG:=Lib.hid b;have b6:=Lib.hid U;have a6:=u.c0;have a7:=u.c1;have a8:=u.c2;clear W b U hl b9 y;go_enter Tryz.func19,Tryz.ntmps19
    go_wp2_with fail
    refine X.out.mono ?_;generalize ((w.alloc (.cells #[.int .i64 fr.obj,.int .i64 fr.kind,.int .i64 fr.off] 30)).alloc (.cells #[.int .i64 «to».obj,.int .i64 «to».kind,.int .i64 «to».off] 30)).alloc (.cells #[.int .i64 most] 3)=w3 at u P V3 z3 c3 F a6 a7 a8 ⊢;rintro e d ⟨A1,n1,c1,B1,m1,d1,rfl,a2,a1,hI,J,Z⟩;have Hd:=qe8 a2 a1 hI J;have N4:NB (d.alloc (.cells #[.int .i64 0,.slice none 0 0,.slice none 0 0] 75)) d.1.size 0 none 0 0 none 0 0:=NB.new d _ _ _ _ _ _ _ _;have b5:Below d.1.size d (d.alloc (.cells #[.int .i64 0,.slice none 0 0,.slice none 0 0] 75)):=Qm;have z4:=Z.size;clear hI J X c3 a6 a7 a8;go_wp2_with (first
     |(refine Gt rfl (.tmp 12) _ rfl d.1.size rfl M.lvl A1 n1 c1 B1 m1 d1 rfl N4 ?_;intro m N6 T6;have B:Turn (λ_=>False) d m:=(Qv (S:=λ_=>False) b5).trans T6 (λk h=>.inr (by have h:k=d.1.size:=h;omega));have z6:=B.size;have c6:=N6.lt;have T:Below m.1.size m (m.alloc (.cells #[.slice none 0 0] 26)):=Qm;have I:Turn (λ_=>False) w3 (m.alloc (.cells #[.slice none 0 0] 26)):=((Qv (S:=λ_=>False) Z).trans B (λ_ h=>.inl h)).trans (Qv (S:=λ_=>False) T) (λ_ h=>.inl h);have K7:=u.keep (I.block _ u.lt (λh=>h));have k0:=K7.c0;have k1:=K7.c1;have k2:=K7.c2;have N7:=N6.below T N6.lt;have q0:=N7.c0;have q1:=N7.c1;have q2:=N7.c2)
     |fail)
    have b7:Turn (λ_=>False) d (m.alloc (.cells #[.slice none 0 0] 26)):=B.trans (Qv (S:=λ_=>False) T) (λ_ h=>.inl h);have b1:=Hd.turn b7 (λ_ _ _ h=>h);have V7:(m.alloc (.cells #[.slice none 0 0] 26)).1[m.1.size]?=some (.cells #[.slice none 0 0] 26 (0,0)):=heap_alloc_new m _;have z7:(m.alloc (.cells #[.slice none 0 0] 26)).1.size=m.1.size+1:=by simp
    have S7:Lc (m.alloc (.cells #[.slice none 0 0] 26)) w.1.size (m.1.size+1) m.1.size (w.1.size+2) (w.1.size+1) most «to» none []:=by
     have b8:=P.lt;exact⟨⟨_,0,V7,O8 _ _,λk h=>(by cases h)⟩,⟨_,(I.block _ (by omega) (λh=>h)).trans V3⟩,P.keep (I.block _ b8 (λh=>h)),by omega,⟨by omega,by omega,by omega,by omega,by omega,by omega⟩⟩
    have B7:Below w.1.size w (m.alloc (.cells #[.slice none 0 0] 26)):=F.trans (I.below (λ_ h=>h.elim) F.size);clear k0 k1 k2 q0 q1 q2;refine (qgv H ht fr «to» most (lim:=w.1.size) (base:=m.1.size+1) (vb:=m.1.size) (mb:=w.1.size+2) (tb:=w.1.size+1) (by omega) rfl l _ M w3.1.size d.1.size A1 n1 c1 B1 m1 d1 none [] B7 S7 b1 (λk h1 h2 h=>by
     rcases h with h|h
     ·omega
     ·cases h) (by omega) K b6.out (Nat.zero_le _) (by have:=Hc.out;simpa using this)).mono ?_
    rw[HG.out];rintro e w8 ⟨rfl,A8,h8,X8,c7⟩;have B8:Below w.1.size w w8:=B7.trans (X8.below (λk hk=>by
     rcases hk with h|h
     ·omega
     ·cases h) B7.size)
    by_cases f:G.2=0
    ·have g3:(G.2==0)=true:=by simp[f]
     have g4:(G.2 != 0)=false:=by simp[f]
     obtain⟨⟨t,c,hv,row,-⟩,-⟩:=h8 f;have c8:=cell_of_one hv;have b0:=Lib.hid f;clear f;go_wp2_with fail
     go_ret2;exact⟨A8,_,c,by rw[b0.out];rfl,row,B8⟩
    ·have g3:(G.2==0)=false:=by simp[f]
     have g4:(G.2 != 0)=true:=by simp[f]
     have O:G.1=[]:=by
      have h:=f;rw[<-HG.out] at h ⊢;exact qmn _ _ _ h
     have Y:=Lib.hid O;clear f h8 O;go_wp2_with fail
     go_ret2;exact⟨none,0,0,rfl,by rw[Y.out];exact O8 _ _,B8⟩
   ·have g3:(E==0)=false:=by simp[hE]
    have g4:(E != 0)=true:=by simp[hE]
    rw[q71 (by rw[HR.out];exact hE)] at b;rw[HR.out] at b;subst b;clear hE y W;go_enter Tryz.func19,Tryz.ntmps19
    go_wp2_with fail
    refine X.out.mono ?_;rintro e d ⟨A1,n1,c1,B1,m1,d1,rfl,a2,a1,hI,J,Z⟩;have N4:NB (d.alloc (.cells #[.int .i64 0,.slice none 0 0,.slice none 0 0] 75)) d.1.size 0 none 0 0 none 0 0:=NB.new d _ _ _ _ _ _ _ _;have b5:Below d.1.size d (d.alloc (.cells #[.int .i64 0,.slice none 0 0,.slice none 0 0] 75)):=Qm;clear hI J X c3;go_wp2_with (first
     |(refine Gt rfl (.tmp 12) _ rfl d.1.size rfl M.lvl A1 n1 c1 B1 m1 d1 rfl N4 ?_;intro m N6 T6)
     |fail)
    go_ret2;have B:Turn (λ_=>False) d m:=(Qv (S:=λ_=>False) b5).trans T6 (λk h=>.inr (by have h:k=d.1.size:=h;omega));exact⟨none,0,0,rfl,O8 _ _,F.trans ((Z.mono F.size).trans (B.below (λ_ h=>h.elim) (by have:=Z.size;have:=F.size;omega)))⟩
theorem qqm {w:World}{p:Nat}{R:Int->Nd × Int}(H:Src w p R)(m:Tab w)(root:Int)(fr «to»:Kd)(most:Int)(b:root≠0->Ja R (Ub R root) root<=100000) :
  Calls Tryz.prog 19 #[.pointer (some ⟨p,0,none⟩),.int .i64 root,.agg #[.int .i64 fr.obj,.int .i64 fr.kind,.int .i64 fr.off],.agg #[.int .i64 «to».obj,.int .i64 «to».kind,.int .i64 «to».off],.int .i64 most] w λe d=>∃A n c,e=.returned (.tuple #[.slice A n c,.int .i64 (Af R fr «to» most root).2])/\Zl d A n c (Af R fr «to» most root).1/\Below w.1.size w d:=by
 refine (qql H m root fr «to» most b).mono ?_;rintro e d ⟨A,n,c,h1,h2,f⟩;exact⟨A,n,c,h1,h2.Zq,f⟩
section
variable {w:World}{p:Nat}{R:Int->Nd × Int}{root:Int}{its:List Qc}
theorem Told.scan (h:Told w p R root its)(ht:Tab w)(fr «to»:Kd)(most:Int)(L:List Qc)(hL:(within fr «to» its).take most.toNat=L) :
  Calls Tryz.prog 19 #[.pointer (some ⟨p,0,none⟩),.int .i64 root,.agg #[.int .i64 fr.obj,.int .i64 fr.kind,.int .i64 fr.off],.agg #[.int .i64 «to».obj,.int .i64 «to».kind,.int .i64 «to».off],.int .i64 most] w λe b=>∃A n c,e=.returned (.tuple #[.slice A n c,.int .i64 0])/\Zl b A n c L/\Below w.1.size w b:=by
 have:=qqm h.src ht root fr «to» most (λh0=>by have:=qmo (qqk R) h.tree h0;have:=h.len;omega);rw[qqg h.tree h.Qd,hL] at this;exact this
end
theorem qd4 {l:List Qc}{m:Nat}(h:Ky l m)(hm:m<=150):(within ⟨0,0,0⟩ ⟨2147483647,255,2147483647⟩ l).take (1000:Int).toNat=l:=by
 rw[qmm λx b=>(h.may x b).1,List.take_of_length_le];have:=h.len;show l.length<=1000;omega
