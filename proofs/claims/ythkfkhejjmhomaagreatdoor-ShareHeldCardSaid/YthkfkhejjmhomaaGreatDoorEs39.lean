/- The code's pool: Node -/
import Derived.Test.YthkfkhejjmhomaaGreatDoorEs32
import Derived.Test.YthkfkhejjmhomaaGreatDoorEs38
namespace Go.Proofs.YthkfkhejjmhomaaGreatDoor
open Go Go.RowKit Go.Proofs
set_option maxHeartbeats 16000000
set_option maxRecDepth 100000
theorem qix {w:World}{f:Addr}{p:Array Value}{t:TypeId}{v:Value}(h:w.1[f.block]?=some (.cells p t (0,0)))(e:w.cell? f=some v):p[f.off]?=some v:=by
 unfold World.cell? at e;rw[h] at e;dsimp only at e;split at e
 ·cases e
 ·exact e
section
variable {w w':World}{b n c m d:Nat}{l:Int}{A B:Option Addr}
end
def Sj (R R':Int->Nd × Int):Prop:=∀a,(R a).2=0->R' a=R a\/(R' a).2=5
def D7 (R:Int->Nd × Int)(fr «to»:Kd)(most root:Int):List Qg × Int:=if root=0\/most<1 then ([],0) else Jp R fr «to» most.toNat (Ug R root) root []
theorem qr2 {R:Int->Nd × Int}{root:Int}{its:List Qg}(h:Zl R root its)(e:Qk its)(fr «to»:Kd)(most:Int):D7 R fr «to» most root=((within fr «to» its).take most.toNat,0):=by
 unfold D7;rcases h with⟨rfl,rfl⟩|⟨l,_,h,h1,_⟩
 ·rw[if_pos (.inl rfl)];simp[within]
 ·by_cases hm:most<1
  ·rw[if_pos (.inr hm),show most.toNat=0 by omega,List.take_zero]
  ·rw[if_neg (by omega),(Ce h).1,qcw fr «to» _ l root its [] h e (Nat.zero_le _),List.nil_append]
def Gj («to»:Kd)(most:Nat):List Qg->List Qg->List Qg
 |[],acc=>acc
 |x::r,acc=>if «to».less x.k=true\/most<=acc.length then acc else Gj «to» most r (acc++[x])
theorem qcx {fr «to»:Kd}{most:Nat}:∀(r e:List Qg),Qk r->(∀x∈r,x.k.less fr=false)->e.length<=most->Gj «to» most r e=(e++within fr «to» r).take most
 |[],e,_,_,ha=>by
  show e=_;rw[show within fr «to» []=[] from rfl,List.append_nil,List.take_of_length_le ha]
 |x::r,e,hr,hf,ha=>by
  obtain⟨D,E⟩:=List.pairwise_cons.1 hr;unfold Gj;by_cases f:«to».less x.k=true
  ·rw[if_pos (.inl f),q4h λz p=>.inr (by
    rcases List.mem_cons.1 p with rfl|p
    ·exact f
    ·exact Kd.trans _ _ _ f (D z p)),List.append_nil,List.take_of_length_le ha]
  ·by_cases hm:most<=e.length
   ·rw[if_pos (.inr hm),q4i hm,List.take_of_length_le ha]
   ·rw[if_neg (by rintro (h|h);exact f h;exact hm h),qcx r _ E (λy u=>hf y (List.mem_cons_of_mem _ u)) (by rw[List.length_append,List.length_singleton];omega)];have:within fr «to» (x::r)=x::within fr «to» r:=by
     unfold within;rw[List.filter_cons,hf x (List.mem_cons_self ..),if_pos (by simp;simpa using f)]
    rw[this,List.append_assoc];rfl
theorem qr3 {its:List Qg}(O:Qk its)(fr «to»:Kd){most:Nat}(p:List Qg)(I:p.length<=most):Gj «to» most (its.drop (lead (its.map (·.k)) fr)) p=(p++within fr «to» its).take most:=by
 obtain⟨j,F⟩:∃j,lead (its.map (·.k)) fr=j:=⟨_,rfl⟩;have K:j<=its.length:=by have:=qbi (its.map (·.k)) fr;rw[List.length_map] at this;omega
 have e:∀q (D:q<its.length),Qz its q=its[q]:=λq D=>by unfold Qz;rw[List.getD_eq_getElem?_getD,List.getElem?_eq_getElem D];rfl
 have h1:within fr «to» (its.take j)=[]:=q4h λx u=>.inl (by
  obtain⟨q,D,H⟩:=List.getElem_of_mem u;rw[List.length_take] at D;have:=q6k (its.map (·.k)) fr q (by omega);rw[q1b its (by omega),e q (by omega)] at this;rw[<-H,List.getElem_take];exact this)
 have h2:within fr «to» its=within fr «to» (its.drop j):=by
  conv=>lhs;rw[<-List.take_append_drop j its]
  have:within fr «to» (its.take j++its.drop j)=within fr «to» (its.take j)++within fr «to» (its.drop j):=by unfold within;rw[List.filter_append]
  rw[this,h1,List.nil_append]
 rw[F,h2];have y:Qk (its.drop j):=by
  have:Qk (its.take j++its.drop j):=by rw[List.take_append_drop];exact O
  exact (List.pairwise_append.1 this).2.1
 refine qcx _ p y (λx u=>?_) I;by_cases f:j<its.length
 ·have E:(Qz its j).k.less fr=false:=by
   have:=qbj (its.map (·.k)) fr (by rw[F,List.length_map];exact f);rwa [F,q1b its f] at this
  rw[List.drop_eq_getElem_cons f] at u y;rcases List.mem_cons.1 u with rfl|u
  ·rw[<-e j f];exact E
  ·have G:=(List.pairwise_cons.1 y).1 x u;rw[<-e j f] at G
   cases J:x.k.less fr with
   |false=>rfl
   |true=>rw[Kd.trans _ _ _ G J] at E;cases E
 ·rw[List.drop_eq_nil_of_le (by omega)] at u
  cases u
section
variable {w w':World}{lo hi n c m d:Nat}{A B:Option Addr}{M:Nd}
theorem Held.vals (h:Held w lo hi A n c B m d M):Rx w lo hi A n M.items:=(h.2.2.2 w (Nat.le_refl _) λ_ _ _=>rfl).2.2
end
structure Lj (w:World)(lim base vb mb tb:Nat)(most:Int)(tk:Kd)(A:Option Addr)(acc:List Qg):Prop where
 var:∃t c,w.heap[vb]?=some (.cells #[.slice A acc.length c] t (0,0))/\Jt w lim A acc.length c acc/\∀k,q01 A=some k->base<=k
 many:∃t,w.heap[mb]?=some (.cells #[.int .i64 most] t (0,0))
 last:KB w tb tk
 Qc9:lim<=base
 lt:vb<base/\mb<base/\tb<base/\base<=w.heap.size/\mb≠vb/\tb≠vb
theorem Lj.below {w w':World}{lim base vb mb tb:Nat}{most:Int}{tk:Kd}{A:Option Addr}{acc:List Qg}(h:Lj w lim base vb mb tb most tk A acc)(hb:Below w.1.size w w'):Lj w' lim base vb mb tb most tk A acc:=by
 obtain⟨⟨t,c,h1,h2,f⟩,⟨D,p⟩,u,y,e⟩:=h;exact⟨⟨t,c,(hb.block vb (Wx h1)).trans h1,h2.below hb,f⟩,⟨D,(hb.block mb (Wx p)).trans p⟩,u.below hb u.lt,y,⟨e.1,e.2.1,e.2.2.1,Nat.le_trans e.2.2.2.1 hb.size,e.2.2.2.2⟩⟩
theorem qza {w:World}{vb:Nat}{A:Option Addr}{n c:Nat}{t:TypeId}(F:w.1[vb]?=some (.cells #[.slice A n c] t (0,0))){V:Option Addr}{p q:Nat}{x:List UInt8}(h:Sl w V p q x)(G:x≠[]):∀k,q01 V=some k->k≠vb:=λk f e=>by
 subst e;have E:0<x.length:=List.length_pos_iff.2 G;obtain⟨u,y,I,D⟩:=h.2.2.2 0 (bv x[0]) (by rw[List.getElem?_map,List.getElem?_eq_getElem E];rfl);rw[y] at f;have f:u.block=k:=Option.some.inj f;have h1:w.1[(u.add 0).block]?=some (.cells #[.slice A n c] t (0,0)):=by rw[Nl,f];exact F
 have h2:=qix h1 D;obtain⟨z,H⟩:∃z,(u.add 0).off=z:=⟨_,rfl⟩;rw[H] at h2;match z,h2 with
 |0,h2=>injection h2 with h2;cases h2
 |z+1,h2=>simp at h2
theorem qr4 {w w':World}{base vb n c K c2:Nat}{A F:Option Addr}{t:TypeId}{xs:List Qg}(h:Jt w base A n c xs)(J:w.1[vb]?=some (.cells #[.slice F K c2] t (0,0)))(H:∀k,q01 A=some k->k≠vb)(T:Turn (λk=>k=vb) w w'):Jt w' base A n c xs:=by
 obtain⟨D,h1,h2,G⟩:=h;refine⟨D,h1.turned T (λk f=>H k f),h2,λj r x I y=>?_⟩;obtain⟨V,p,q,e,E,u⟩:=G j r x I y;exact⟨V,p,q,e,E.turned' T (λy k f=>qza J E y k f),u⟩
theorem qb2 {w:World}{lim base vb mb tb:Nat}{most:Int}{«to»:Kd}{A:Option Addr}{f:List Qg}(h:Lj w lim base vb mb tb most «to» A f)(k:Kd)(r:Bool)(p:(decide ((f.length:Int)<most)&&!(«to».less k))=r) :
  Calls Tryz.prog 54 #[.agg #[.int .i64 k.obj,.int .i64 k.kind,.int .i64 k.off],.pointer (some ⟨vb,0,none⟩),.pointer (some ⟨mb,0,none⟩),.pointer (some ⟨tb,0,none⟩)] w λe w'=>e=.returned (.bool r)/\Below w.1.size w w':=by
 obtain⟨D,u⟩:=Ym w k;have h1:=h.below u;obtain⟨⟨t,c,E,-⟩,⟨R,hm⟩,y,-,-⟩:=h1;have c0:=cell_of_one E;have c1:=cell_of_one hm;have I:=D.c0;have J:=D.c1;have K:=D.c2;have O:=y.c0;have P:=y.c1;have Q:=y.c2;clear E hm y h;by_cases hn:(f.length:Int)<most
 ·rw[decide_eq_true hn,Bool.true_and] at p;have F:=Lib.hid (qle «to» k (w.alloc (.cells #[.int .i64 k.obj,.int .i64 k.kind,.int .i64 k.off] 45)));have G:=Lib.hid p;clear p;go_enter Tryz.func54,Tryz.ntmps54
  go_wp2_with fail
  refine F.out.mono ?_;rintro e T ⟨rfl,H⟩;go_wp2_with fail
  go_ret;exact⟨by rw[<-G.out];rfl,u.trans (H.mono u.size)⟩
 ·rw[decide_eq_false hn,Bool.false_and] at p;subst p;go_enter Tryz.func54,Tryz.ntmps54
  go_wp2_with fail
  go_ret;exact⟨rfl,u⟩
theorem qr5 {w:World}{lim base vb mb tb:Nat}{most:Int}{«to»:Kd}{A:Option Addr}{f:List Qg}(h:Lj w lim base vb mb tb most «to» A f)(x:Qg)(V:Option Addr)(p q:Nat)(hs:Sl w V p q x.v)(hV:x.v≠[]->∀g,q01 V=some g->lim<=g/\q01 A≠some g)(hn:f.length<=100000) :
  Calls Tryz.prog 57 #[.agg #[.int .i64 x.k.obj,.int .i64 x.k.kind,.int .i64 x.k.off,.slice V p q],.pointer (some ⟨vb,0,none⟩)] w λe w'=>e=.returned (.tuple #[])/\∃J,Lj w' lim base vb mb tb most «to» J (f++[x])/\Turn (λk=>k=vb\/q01 A=some k) w w'/\∀k,q01 J=some k->q01 A=some k\/w.1.size<=k:=by
 have K:Below w.1.size w ((w.alloc (.cells #[.int .i64 x.k.obj,.int .i64 x.k.kind,.int .i64 x.k.off,.slice V p q] 50)).alloc (.cells #[.int .i64 x.k.obj,.int .i64 x.k.kind,.int .i64 x.k.off,.slice V p q] 50)):=(Qn).alloc (by simp) _;have b0:Below w.1.size w (w.alloc (.cells #[.int .i64 x.k.obj,.int .i64 x.k.kind,.int .i64 x.k.off,.slice V p q] 50)):=Qn;have z1:((w.alloc (.cells #[.int .i64 x.k.obj,.int .i64 x.k.kind,.int .i64 x.k.off,.slice V p q] 50)).alloc (.cells #[.int .i64 x.k.obj,.int .i64 x.k.kind,.int .i64 x.k.off,.slice V p q] 50)).1.size=w.1.size+2:=by simp
 have u:(w.alloc (.cells #[.int .i64 x.k.obj,.int .i64 x.k.kind,.int .i64 x.k.off,.slice V p q] 50)).1[w.1.size]?=some (.cells #[.int .i64 x.k.obj,.int .i64 x.k.kind,.int .i64 x.k.off,.slice V p q] 50 (0,0)):=heap_alloc_new w _;have q0:(w.alloc (.cells #[.int .i64 x.k.obj,.int .i64 x.k.kind,.int .i64 x.k.off,.slice V p q] 50)).cell? ⟨w.1.size,0,none⟩=some (.int .i64 x.k.obj):=by rw[cell_of_row _ _ _ _ _ _ u];rfl
 have q1:(w.alloc (.cells #[.int .i64 x.k.obj,.int .i64 x.k.kind,.int .i64 x.k.off,.slice V p q] 50)).cell? ⟨w.1.size,1,none⟩=some (.int .i64 x.k.kind):=by rw[cell_of_row _ _ _ _ _ _ u];rfl
 have q2:(w.alloc (.cells #[.int .i64 x.k.obj,.int .i64 x.k.kind,.int .i64 x.k.off,.slice V p q] 50)).cell? ⟨w.1.size,2,none⟩=some (.int .i64 x.k.off):=by rw[cell_of_row _ _ _ _ _ _ u];rfl
 have q3:(w.alloc (.cells #[.int .i64 x.k.obj,.int .i64 x.k.kind,.int .i64 x.k.off,.slice V p q] 50)).cell? ⟨w.1.size,3,none⟩=some (.slice V p q):=by rw[cell_of_row _ _ _ _ _ _ u];rfl
 have G:Js ((w.alloc (.cells #[.int .i64 x.k.obj,.int .i64 x.k.kind,.int .i64 x.k.off,.slice V p q] 50)).alloc (.cells #[.int .i64 x.k.obj,.int .i64 x.k.kind,.int .i64 x.k.off,.slice V p q] 50)) 4 (some ⟨w.1.size+1,0,none⟩) 1 1 [Vh x.k V p q]:=by
  have:=(q1q (w.alloc (.cells #[.int .i64 x.k.obj,.int .i64 x.k.kind,.int .i64 x.k.off,.slice V p q] 50)) 50 4 (Vh x.k V p q) _ rfl rfl).Kt (by omega);rwa [World.size_alloc] at this
 obtain⟨⟨t,c,hv,row,F⟩,⟨t2,hm⟩,D,U,⟨l1,l2,l3,l4,l5,l6⟩⟩:=h;have a0:=Wx hv;have a4:=Wx hm;have a3:=D.lt;have c0:=cell_of_one ((b0.block vb a0).trans hv);have Z:=(K.block vb a0).trans hv;have W:=(K.block mb a4).trans hm;have R:=D.below K a3;have a2:=row.below K;have Q:∀k,q01 A=some k->base<=k/\k<w.1.size:=λk y=>⟨F k y,(row.Qc k y).2⟩
 have a6:=hs.below K;clear row hv hm D hs u;go_enter Tryz.func57,Tryz.ntmps57
 go_wp2_with (first
  |(at_builtin;refine q65 rfl _ _ rfl lim A f.length c f rfl a2 (some ⟨w.1.size+1,0,none⟩) 1 x V p q rfl G a6 hV hn (by omega) ?_)
  |fail)
 intro J c6 w3 a1 O H;have I:∀b,b<base->¬q01 A=some b:=λb hb h=>by have:=(Q b h).1;omega
 have E:=(O.block vb (by omega) (I vb l1)).trans Z;have h3:=cell_of_one E;have f3:=free_of_one E;have a5:∀k,q01 J=some k->k≠vb:=λk y e=>by
  rcases H with h|h
  ·rw[h] at y;have:=(Q k y).1;omega
  ·rw[h] at y;have:=Option.some.inj y;omega
 have P:Turn (λk=>k=vb) w3 (w3.setCell ⟨vb,0,none⟩ (.slice J (f.length+1) c6)):=Dy (a:=⟨vb,0,none⟩) _ rfl;have z3:=O.size;have X:=(O.block mb (by omega) (I mb l2)).trans W;have T:=R.keep (O.block tb (by omega) (I tb l3));have Y:=Wx X;clear c0 q0 q1 q2 q3 G W R Z;go_wp2;go_end0
 have e:(f++[x]).length=f.length+1:=by simp
 refine⟨rfl,J,⟨⟨t,c6,by rw[e];exact one_setCell E,by rw[e];exact qr4 a1 E a5 P,λk y=>?_⟩,⟨t2,(P.block mb Y l5).trans X⟩,T.keep (P.block tb T.lt l6),U,⟨l1,l2,l3,by have:=P.size;omega,l5,l6⟩⟩,((Qu (S:=λk=>k=vb\/q01 A=some k) K).trans O (λk h=>.inl (.inr h))).trans P (λk h=>.inl (.inl h)),λk y=>?_⟩
 ·rcases H with h|h
  ·exact F k (h▸y)
  ·rw[h] at y;have:=Option.some.inj y;omega
 ·rcases H with h|h
  ·exact .inl (h▸y)
  ·rw[h] at y;have:=Option.some.inj y;exact .inr (by omega)
def Vt (R:Int->Nd × Int)(fr «to»:Kd)(most:Nat):Nat->Nd->List Qg->List Qg × Int
 |0,M,acc=>((acc++within fr «to» M.items).take most,0)
 |l+1,M,acc=>Xv (Jp R fr «to» most l) «to» most (M.kids.drop (M.Zb fr)) acc
theorem q9r {R:Int->Nd × Int}{fr «to»:Kd}{most:Nat}{a:Int}{M:Nd}(h:R a=(M,0))(e:List Qg):∀{l:Nat},M.lvl=(l:Int)->Jp R fr «to» most l a e=Vt R fr «to» most l M e
 |0,hl=>by
  unfold Jp Vt;rw[h];dsimp only;rw[if_neg (by simp),if_neg (by simpa using hl)]
 |l+1,hl=>by
  unfold Jp Vt;rw[h];dsimp only;rw[if_neg (by simp),if_neg (by simpa using hl)]
theorem q7a {R:Int->Nd × Int}{fr «to»:Kd}{most:Nat}{a:Int}(h:(R a).2≠0)(e:List Qg):∀l:Nat,Jp R fr «to» most l a e=([],(R a).2)
 |0=>by unfold Jp;rw[if_pos h]
 |l+1=>by unfold Jp;rw[if_pos h]
theorem qb3 {R:Int->Nd × Int}{fr «to»:Kd}{most:Nat}{a:Int}(h:(R a).2=0)(e:List Qg):∀{l:Nat},(R a).1.lvl≠(l:Int)->Jp R fr «to» most l a e=([],5)
 |0,hl=>by unfold Jp;rw[if_neg (by simpa using h),if_pos (by simpa using hl)]
 |l+1,hl=>by unfold Jp;rw[if_neg (by simpa using h),if_pos hl]
theorem qcy {f:Int->List Qg->List Qg × Int}{«to»:Kd}{most:Nat}:∀(kids:List Qm) (e:List Qg),(Xv f «to» most kids e).2≠0->(Xv f «to» most kids e).1=[]
 |[],e,h=>absurd rfl h
 |x::r,e,h=>by
  unfold Xv at h ⊢;by_cases p:«to».less x.k=true\/most<=e.length
  ·rw[if_pos p] at h;exact absurd rfl h
  ·rw[if_neg p] at h ⊢;by_cases h1:(f x.a e).2=0
   ·rw[if_neg (by simpa using h1)] at h ⊢;exact qcy r _ h
   ·rw[if_pos h1]
theorem qna {R:Int->Nd × Int}{fr «to»:Kd}{most:Nat}:∀(l:Nat) (M:Nd) (e:List Qg),(Vt R fr «to» most l M e).2≠0->(Vt R fr «to» most l M e).1=[]
 |0,_,_,h=>absurd rfl h
 |_+1,_,_,h=>qcy _ _ h
def Zx (R:Int->Nd × Int):Nat->Int->Nat
 |0,a=>if (R a).2≠0 then 0 else (R a).1.items.length
 |l+1,a=>if (R a).2≠0 then 0 else ((R a).1.kids.map λx=>Zx R l x.a).sum
def U5 (R:Int->Nd × Int):Nat->Nd->Nat
 |0,M=>M.items.length
 |l+1,M=>(M.kids.map λx=>Zx R l x.a).sum
theorem q3q {R:Int->Nd × Int}{a:Int}{M:Nd}(h:R a=(M,0)):∀l,Zx R l a=U5 R l M
 |0=>by unfold Zx U5;rw[h];dsimp only;rw[if_neg (by simp)]
 |l+1=>by unfold Zx U5;rw[h];dsimp only;rw[if_neg (by simp)]
theorem ql4 (l:List Nat):∀n,(l.drop n).sum<=l.sum:=λn=>by
 conv=>rhs;rw[<-List.take_append_drop n l]
 rw[List.sum_append];omega
theorem qgo {f:Int->List Qg->List Qg × Int}{«to»:Kd}{most:Nat}{cnt:Int->Nat}(u:∀x e,e.length<=most->(f x e).2=0->(f x e).1.length<=most/\(f x e).1.length<=e.length+cnt x) :
  ∀(kids:List Qm) (e:List Qg),e.length<=most->(Xv f «to» most kids e).2=0->(Xv f «to» most kids e).1.length<=most/\(Xv f «to» most kids e).1.length<=e.length+(kids.map λx=>cnt x.a).sum
 |[],e,ha,_=>by
  unfold Xv;exact⟨ha,by simp⟩
 |x::r,e,ha,h0=>by
  unfold Xv at h0 ⊢;by_cases p:«to».less x.k=true\/most<=e.length
  ·rw[if_pos p];exact⟨ha,by simp⟩
  ·rw[if_neg p] at h0 ⊢;by_cases h1:(f x.a e).2=0
   ·rw[if_neg (by simpa using h1)] at h0 ⊢;obtain⟨y,E⟩:=u x.a e ha h1;obtain⟨D,F⟩:=qgo u r _ y h0;refine⟨D,?_⟩;rw[List.map_cons,List.sum_cons];omega
   ·rw[if_pos h1] at h0;exact absurd h0 h1
theorem qgp {R:Int->Nd × Int}{fr «to»:Kd}{most:Nat}:∀(l:Nat) (a:Int) (e:List Qg),e.length<=most->(Jp R fr «to» most l a e).2=0->(Jp R fr «to» most l a e).1.length<=most/\(Jp R fr «to» most l a e).1.length<=e.length+Zx R l a
 |0,a,e,ha,h0=>by
  by_cases h1:(R a).2=0
  ·by_cases h2:(R a).1.lvl=0
   ·have f:R a=((R a).1,0):=Prod.ext rfl h1;rw[q9r f e (l:=0) (by simpa using h2),q3q f];unfold Vt U5;dsimp only;have:(within fr «to» (R a).1.items).length<=(R a).1.items.length:=List.length_filter_le ..;rw[List.length_take,List.length_append];omega
   ·rw[qb3 h1 e (l:=0) (by simpa using h2)] at h0
    cases h0
  ·rw[q7a h1] at h0;exact absurd h0 h1
 |l+1,a,e,ha,h0=>by
  by_cases h1:(R a).2=0
  ·by_cases h2:(R a).1.lvl=((l+1:Nat):Int)
   ·have f:R a=((R a).1,0):=Prod.ext rfl h1;rw[q9r f e h2] at h0 ⊢;rw[q3q f];unfold Vt at h0 ⊢;obtain⟨p,u⟩:=qgo (cnt:=Zx R l) (λx e y h=>qgp l x e y h) _ _ ha h0;refine⟨p,Nat.le_trans u ?_⟩;show _<=e.length+((R a).1.kids.map λx=>Zx R l x.a).sum;rw[List.map_drop];have:=ql4 ((R a).1.kids.map λx=>Zx R l x.a) ((R a).1.Zb fr);omega
   ·rw[qb3 h1 e h2] at h0
    cases h0
  ·rw[q7a h1] at h0;exact absurd h0 h1
theorem qgq (f:Qm->Nat):∀(kids:List Qm) (parts:List (List Qg)),parts.length=kids.length->(∀j,j<kids.length->f (Qh kids j)<=(parts.getD j []).length)->(kids.map f).sum<=parts.flatten.length
 |[],parts,_,_=>by simp
 |x::r,[],h,_=>by simp at h
 |x::r,p::ps,h,hf=>by
  rw[List.map_cons,List.sum_cons,List.flatten_cons,List.length_append];have h0:=hf 0 (by simp);have h0:f x<=p.length:=h0;have:=qgq f r ps (by simpa using h) λj u=>by
   have:=hf (j+1) (by simpa using u);rw[getD_cons_succ] at this;have e:Qh (x::r) (j+1)=Qh r j:=by unfold Qh;rw[getD_cons_succ]
   rwa [e] at this
  omega
theorem qcz {R R':Int->Nd × Int}(h:Sj R R'):∀{l:Nat} {a:Int} {its:List Qg},Qi R l a its->Zx R' l a<=its.length
 |0,a,its,hh=>by
  rcases h a (by rw[hh.1]) with e|e
  ·unfold Zx;rw[e,hh.1];simp
  ·unfold Zx;rw[if_pos (by rw[e];decide)];omega
 |l+1,a,its,hh=>by
  obtain⟨kids,parts,h1,h2,p,rfl,u⟩:=hh;rcases h a (by rw[h1]) with e|e
  ·have f:R' a=(⟨((l+1:Nat):Int),[],kids⟩,0):=e.trans h1;rw[q3q f];unfold U5;exact qgq _ kids parts p λj y=>qcz h (u j y).1
  ·unfold Zx;rw[if_pos (by rw[e];decide)];omega
theorem qr6 (R:Int->Nd × Int):Sj R R:=λ_ _=>.inl rfl
theorem qnb {R R':Int->Nd × Int}(f:Sj R R'){root:Int}{its:List Qg}(h:Zl R root its)(h0:root≠0):Zx R' (Ug R' root) root<=its.length:=by
 rcases h with⟨rfl,rfl⟩|⟨l,_,h,h1,_⟩
 ·exact absurd rfl h0
 ·obtain⟨p,y,u⟩:=Ce h;rcases f root u with e|e
  ·have:Ug R' root=l:=by unfold Ug;rw[e];exact p
   rw[this];exact qcz f h
  ·generalize Ug R' root=m
   cases m with
   |zero=>unfold Zx;rw[if_pos (by rw[e];decide)];omega
   |succ m=>unfold Zx;rw[if_pos (by rw[e];decide)];omega
theorem quu (R:Int->Nd × Int)(fr «to»:Kd)(most:Nat){l:Nat}{L:Int}(D:L=((l+1:Nat):Int))(x:Int)(e:List Qg) :
  (Ad R L x≠0/\Jp R fr «to» most l x e=([],Ad R L x))\/(Ad R L x=0/\R x=(Df R L x,0)/\(Df R L x).lvl=(l:Int)/\Jp R fr «to» most l x e=Vt R fr «to» most l (Df R L x) e):=by
 by_cases h1:(R x).2=0
 ·have f:Ad R L x=if (R x).1.lvl≠L-1 then 5 else 0:=if_neg (by simpa using h1)
  have p:Df R L x=if (R x).1.lvl≠L-1 then Zk else (R x).1:=if_neg (by simpa using h1)
  by_cases h2:(R x).1.lvl=L-1
  ·rw[if_neg (by simpa using h2)] at f p;have y:(R x).1.lvl=(l:Int):=by omega
   have u:R x=((R x).1,0):=Prod.ext rfl h1;rw[f,p];exact .inr ⟨rfl,u,y,q9r u e y⟩
  ·rw[if_pos h2] at f;rw[f];exact .inl ⟨by omega,qb3 h1 e (λh=>h2 (by omega))⟩
 ·have f:Ad R L x=(R x).2:=if_pos h1;rw[f];exact .inl ⟨h1,q7a h1 e l⟩
theorem quv {l:List Qm}{j:Nat}(h:j<l.length):l.drop j=Qh l j::l.drop (j+1):=by
 have e:=q11 h;rw[List.getElem?_eq_getElem h] at e;rw[<-List.getElem_cons_drop (h:=h),Option.some.inj e]
def Vk (vb:Nat)(A:Option Addr):Nat->Prop:=λk=>k=vb\/q01 A=some k
theorem qnc {p:Nat}(fr «to»:Kd)(most:Int){lim base vb mb tb:Nat}(w:World)(M:Nd)(lo hi:Nat)(P:Option Addr)(F c1:Nat)(Q:Option Addr)(Y T:Nat)(A:Option Addr)(y:List Qg)
  (S:Lj w lim base vb mb tb most «to» A y) (Hd:Held w lo hi P F c1 Q Y T M) (Z:∀k,lo<=k->k<hi->¬Vk vb A k) (c8:lim<=lo) (a0:M.may=true) (hl:M.lvl=0) (ha:y.length<=most.toNat) (hc:y.length+M.items.length<=100000) :
  Calls Tryz.prog 56 #[.pointer (some ⟨p,0,none⟩),.agg #[.int .i64 M.lvl,.slice P F c1,.slice Q Y T],.agg #[.int .i64 fr.obj,.int .i64 fr.kind,.int .i64 fr.off],.func (.func 54) #[] #[.pointer (some ⟨vb,0,none⟩),.pointer (some ⟨mb,0,none⟩),.pointer (some ⟨tb,0,none⟩)],.func (.func 57) #[] #[.pointer (some ⟨vb,0,none⟩)]] w λe w'=>
   e=.returned (.int .i64 0)/\∃J,Lj w' lim base vb mb tb most «to» J ((y++within fr «to» M.items).take most.toNat)/\Turn (Vk vb A) w w'/\∀k,q01 J=some k->q01 A=some k\/w.1.size<=k:=by
 obtain⟨hM,a1,c6,c7⟩:=q16 a0 hl;obtain⟨t,a3⟩:∃t,M.Zb fr=t:=⟨_,rfl⟩;obtain⟨r,hr⟩:∃r,Kz M.keys fr t=r:=⟨_,rfl⟩;have b6:t=lead (M.items.map (·.k)) fr:=by
  rw[<-a3,hM];unfold Nd.Zb;rw[if_pos rfl,q1v]
 have b7:t<=M.items.length:=by have:=qbi (M.items.map (·.k)) fr;rw[List.length_map] at this;omega
 have hG:Gj «to» most.toNat (M.items.drop t) y=(y++within fr «to» M.items).take most.toNat:=by rw[b6];exact qr3 a1 fr «to» y ha
 obtain⟨G,a8⟩:∃G,(y++within fr «to» M.items).take most.toNat=G:=⟨_,rfl⟩;rw[a8] at hG ⊢;have N1:NB ((w.alloc (.cells #[.int .i64 M.lvl,.slice P F c1,.slice Q Y T] 77)).alloc (.cells #[.int .i64 fr.obj,.int .i64 fr.kind,.int .i64 fr.off] 45)) w.1.size M.lvl P F c1 Q Y T:=(NB.new w _ _ _ _ _ _ _ _).below (Qn) (by simp);have b1:Below w.1.size w ((w.alloc (.cells #[.int .i64 M.lvl,.slice P F c1,.slice Q Y T] 77)).alloc (.cells #[.int .i64 fr.obj,.int .i64 fr.kind,.int .i64 fr.off] 45)):=(Qn).alloc (by simp) _;have z1:((w.alloc (.cells #[.int .i64 M.lvl,.slice P F c1,.slice Q Y T] 77)).alloc (.cells #[.int .i64 fr.obj,.int .i64 fr.kind,.int .i64 fr.off] 45)).1.size=w.1.size+2:=by simp
 have K1:KB ((w.alloc (.cells #[.int .i64 M.lvl,.slice P F c1,.slice Q Y T] 77)).alloc (.cells #[.int .i64 fr.obj,.int .i64 fr.kind,.int .i64 fr.off] 45)) (w.1.size+1) fr:=KB.new2 w _ fr.obj fr.kind fr.off _;have O:M.items.length=F:=Hd.rows.1.J5.len;have b9:∀k,Vk vb A k->k<w.1.size:=λk I=>by
  obtain⟨⟨_,_,hv,row,_⟩,_⟩:=S;rcases I with rfl|I
  ·exact Wx hv
  ·exact (row.Qc k I).2
 have S1:=S.below b1;have R:=Hd.below b1;obtain⟨r1,s1⟩:=R.rows;have a5:=Lib.hid (q28 M (q1n a0) fr t a3 r hr P F c1 Q Y T _ r1.J5 s1 (by have:=Hd.2.1;omega) (by have:=Hd.2.2.1;omega));have g1:(M.lvl==0)=true:=by rw[hl];rfl
 have g2:decide (M.lvl=0)=true:=decide_eq_true hl;rw[O] at b7 hc;have HG:=Lib.hid hG;have O:=Lib.hid O;have p0:=N1.c0;have p1:=N1.c1;have p2:=N1.c2;have k0:=K1.c0;have k1:=K1.c1;have k2:=K1.c2;clear hM a1 c6 c7 a3 hr b6 hG a8 r1 s1 hl K1 S Hd;go_enter Tryz.func56,Tryz.ntmps56
 go_wp2_with fail
 refine a5.out.mono ?_;generalize (w.alloc (.cells #[.int .i64 M.lvl,.slice P F c1,.slice Q Y T] 77)).alloc (.cells #[.int .i64 fr.obj,.int .i64 fr.kind,.int .i64 fr.off] 45)=w1 at N1 b1 z1 S1 R p0 p1 p2 k0 k1 k2 ⊢;rintro e w2 ⟨rfl,b2⟩;have N2:=N1.below b2 N1.lt;have S2:=S1.below b2;have a4:=R.below b2;have B2:=b1.trans (b2.mono b1.size);have z2:=b2.size;clear p0 p1 p2 k0 k1 k2 a5 N1 S1 R b1 b2;have p0:=N2.c0;go_wp2_with fail
 clear p0;go_loopw [11] (λiv wr=>∃(j:Nat) (J:Option Addr) (f:List Qg),j<=F/\iv=.int .i64 (j:Int)/\Lj wr lim base vb mb tb most «to» J f/\Gj «to» most.toNat (M.items.drop j) f=G/\f.length+(F-j)<=100000/\Turn (Vk vb A) w2 wr/\∀k,q01 J=some k->q01 A=some k\/w2.1.size<=k) (λiv _=>F-(intOf iv).toNat)
 case atStart=>exact⟨t,A,y,b7,rfl,S2,HG.out,by omega,Turn.refl _ _,λk I=>.inl I⟩
 case round=>
  obtain⟨j,J,f,d2,rfl,S',E,c9,X,U⟩:=hrel;have Nr:=N2.turned X (λh=>by have:=b9 _ h;omega);have Hr:=a4.turn X Z;have p1:=Nr.c1;have out:f=G->∃J,Lj wr lim base vb mb tb most «to» J G/\Turn (Vk vb A) w wr/\∀k,q01 J=some k->q01 A=some k\/w.1.size<=k:=λe=>by
   refine⟨J,e▸S',(Qu (S:=Vk vb A) B2).trans X (λk h=>.inl h),λk I=>(U k I).imp id λh=>by have:=B2.size;omega⟩
  have a6:=Lib.hid out;clear out;by_cases b5:j<F
  ·obtain⟨g,o,V,pp,qq,rfl,hg,c0,a7,c2,c3,hs,W⟩:=Hr.vals j b5;have a9:=qxr (l:=M.items) (j:=j) (by rw[O.out];exact b5);rw[a9] at E;clear a9;obtain⟨x,hx⟩:∃x,Qz M.items j=x:=⟨_,rfl⟩;rw[hx] at c0 a7 c2 hs W E;clear hx;have e0:(0:Int)<=(j:Int):=by omega
   have e1:(j:Int)<(F:Int):=by omega
   obtain⟨_,d0⟩:=Hr.rows.1.J5.bounds;obtain⟨rr,D⟩:∃rr,(decide ((f.length:Int)<most)&&!(«to».less x.k))=rr:=⟨_,rfl⟩;have Hw:=Lib.hid (qb2 S' x.k rr D)
   cases rr with
   |false=>
    have u:f=G:=by
     rw[<-E];unfold Gj;rw[if_pos ?_];rw[Bool.and_eq_false_iff] at D;rcases D with h|h
     ·exact .inr (by have:=of_decide_eq_false h;omega)
     ·exact .inl (by simpa using h)
    have u:=Lib.hid u;clear E D hs W c3;go_wp2_with (first
     |(go_at_call 54;refine Hw.out.mono ?_;rintro e w4 ⟨rfl,H⟩)
     |fail)
    go_ret;obtain⟨A9,S9,X9,h9⟩:=a6.out u.out;exact⟨rfl,A9,S9.below H,X9.trans (Qu (S:=Vk vb A) H) (λk h=>.inl h),h9⟩
   |true=>
    have b0:Gj «to» most.toNat (M.items.drop (j+1)) (f++[x])=G:=by
     rw[<-E];conv=>rhs;unfold Gj
     rw[if_neg ?_];rw[Bool.and_eq_true] at D;rintro (h|h)
     ·rw[h] at D;simp at D
     ·have:=of_decide_eq_true D.1;omega
    have K:x.v≠[]->∀g,q01 V=some g->lim<=g/\q01 J≠some g:=λhv b hb=>by
     obtain⟨h1,h2⟩:=W hv b hb;refine⟨Nat.le_trans c8 h1,λh=>?_⟩;rcases U b h with h3|h3
     ·exact Z b h1 h2 (.inr h3)
     ·have:=a4.1;omega
    have b8:=Lib.hid b0;have Hs:=Lib.hid (λw4 (H:Below wr.1.size wr w4)=>qr5 (S'.below H) x V pp qq (hs.below H) K (by omega));have a2:=Lib.hid (λw4 (H:Below wr.1.size wr w4)=>(⟨(H.cell (p:=⟨g,_,none⟩) hg).trans c0,(H.cell (p:=⟨g,_,none⟩) hg).trans a7,(H.cell (p:=⟨g,_,none⟩) hg).trans c2,(H.cell (p:=⟨g,_,none⟩) hg).trans c3⟩:_/\_/\_/\_));clear E D hs W b0 K;go_wp2_with (first
     |(go_at_call 54;refine Hw.out.mono ?_;rintro e w4 ⟨rfl,H⟩;obtain⟨y0,y1,y2,y3⟩:=a2.out w4 H;have q1:=(Nr.below H Nr.lt).c1)
     |(go_at_call 57;refine (Hs.out w4 H).mono ?_;rintro e w5 ⟨rfl,A5,S5,X5,h5⟩)
     |fail)
    refine⟨⟨j+1,A5,f++[x],by omega,by go_num,S5,b8.out,by simp;omega,(X.trans (Qu (S:=Vk vb A) H) (λk h=>.inl h)).trans X5 (λk I=>?_),λk I=>?_⟩,by simp[intOf];omega⟩
    ·rcases I with rfl|I
     ·exact .inl (.inl rfl)
     ·exact (U k I).imp (λh=>.inr h) id
    ·rcases h5 k I with h|h
     ·exact U k h
     ·exact .inr (by have:=X.size;have:=H.size;omega)
  ·have b3:j=F:=by omega
   have u:f=G:=by
    rw[<-E,List.drop_eq_nil_of_le (by rw[O.out];omega)];rfl
   have u:=Lib.hid u;have e1:¬(j:Int)<(F:Int):=by omega
   clear E b3;go_wp2_with fail
   go_ret;obtain⟨A9,S9,X9,h9⟩:=a6.out u.out;exact⟨rfl,A9,S9,X9,h9⟩
