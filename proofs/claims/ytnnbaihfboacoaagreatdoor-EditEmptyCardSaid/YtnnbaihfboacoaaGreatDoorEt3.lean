/- The program's Take takes a number off any bytes, or refuses, as P1.1 says, for at most 2 t -/
import Derived.Test.YtnnbaihfboacoaaGreatDoorEt1
import Derived.Deep.RegionWith
import Derived.BigQuiet
import Derived.Deep.QuietTactic
import Derived.Deep.RegionLaw
import Derived.StillTail
namespace Go.Proofs.YtnnbaihfboacoaaGreatDoor
open Go Go.RowKit Go.Proofs
set_option maxHeartbeats 1000000
theorem q6w (A:Option Addr)(k c:Nat)(l:List UInt8)(n:Int)(w:World)(h:Sl w A k c l)(U:k<=17592186044416)(h1:1<=n)(O:n<=7)(hn:n<=(k:Int)) :
  Calls Tryz.prog 149 #[.slice A k c,.int .i64 n] w λe D=>∃y B u,e=.returned (.tuple #[.int .i64 (Q8 (l.take n.toNat)),.slice y B u,.int .i64 0])/\Own D w.1.size 5 y B u (l.drop n.toNat)/\Below w.1.size w D:=by
 obtain⟨m,rfl⟩:=Int.eq_ofNat_of_zero_le (show 0<=n by omega);rw[Int.toNat_natCast];have Q:=h.cap;have hm:=h.max;unfold maxLen at hm;have H:(0:Int)<=(m:Int):=by omega
 have K:(m:Int)<=(c:Int):=by omega
 have I:m<=c:=by omega
 have F:m<=k:=by omega
 have R:decide ((k:Int)<(m:Int))=false:=by simp;omega
 go_enter Tryz.func149,Tryz.ntmps149
 go_wp2_with fail
 have h2:=h.take (k:=m) (by omega);obtain⟨p,G,E⟩:∃p,(if c=m then A else Option.map (λx=>x.add m) A)=p/\Sl w p (k-m) (c-m) (l.drop m):=⟨_,rfl,h.drop (by omega)⟩;have d:=Lib.hid E.len;go_region_with (first
  |(go_at_call 172;go_loud (refine (q7h _ _ _ (l.take m) _ (by first|exact h2|exact h2.alloc _) (by omega)).mono ?_;rintro e J ⟨rfl,rfl⟩))
  |(go_at_call 158;refine (q59 _ _ _ [l.drop m] _ (by exact Cc (w:=w.drew) 31 E) (by rw[Qav,d.out];omega)).mono ?_;rintro e J ⟨M,T,c1,rfl,b,f⟩))
 all_goals
  go_wp2;go_ret3;rw[Qal] at b;refine⟨_,_,_,rfl,b.less (by simp),?_⟩;exact ((Below.refl w.1.size w).drew.alloc (Nat.le_refl _) _).trans (f.mono (by simp))
theorem qmg (A:Option Addr)(k c:Nat)(n:Int)(w:World)(h1:1<=n)(d:n<=7)(hn:(k:Int)<n) :
  Calls Tryz.prog 149 #[.slice A k c,.int .i64 n] w λe b=>e=.returned (.tuple #[.int .i64 0,.slice none 0 0,.int .i64 2])/\w=b:=by
 go_enter Tryz.func149,Tryz.ntmps149
 go_wp2;go_ret3;exact⟨rfl,rfl⟩
theorem Ny {w:World}{A:Option Addr}{n c:Nat}{l:List UInt8}(h:Sl w A n c l):(convert 31 9 (.slice A n c)).run Tryz.prog w=.ok (.string ⟨l.toArray⟩) w:=
 q64 31 9 5 Gy Tryz.underlying5 Tryz.underlying9 h
def G5 (l:List UInt8)(m:Nat):Prop:=m<=l.length/\m+Q8 (l.take m)<=l.length
def bodyT (l:List UInt8)(m:Nat):List UInt8:=(l.drop m).take (Q8 (l.take m))
def Uw (l:List UInt8)(m:Nat):List UInt8:=l.drop (m+Q8 (l.take m))
theorem qka (l:List UInt8)(m:Nat):(bodyT l m).length<=l.length:=by unfold bodyT;simp;omega
theorem qto (l:List UInt8)(m:Nat):(Uw l m).length<=l.length:=by unfold Uw;simp
theorem qia (A:Option Addr)(k c:Nat)(n:Int)(w:World)(hn:(k:Int)<n) :
  Calls Tryz.prog 171 #[.slice A k c,.int .i64 n] w λe b=>e=.returned (.tuple #[.slice none 0 0,.slice none 0 0,.bool false])/\w=b:=by
 go_enter Tryz.func171,Tryz.ntmps171
 go_wp2;go_ret3;exact⟨rfl,rfl⟩
theorem qps (A:Option Addr)(k c:Nat)(l:List UInt8)(n:Int)(w:World)(h:Sl w A k c l)(h1:1<=n)(u:n<=6)(hn:n<=(k:Int))(f:k<n.toNat+Q8 (l.take n.toNat)) :
  Calls Tryz.prog 171 #[.slice A k c,.int .i64 n] w λe b=>e=.returned (.tuple #[.slice none 0 0,.slice none 0 0,.bool false])/\w=b:=by
 obtain⟨m,rfl⟩:=Int.eq_ofNat_of_zero_le (show 0<=n by omega);rw[Int.toNat_natCast] at f;have B:=h.cap;have hm:=h.max;unfold maxLen at hm;have d:m<=c:=by omega
 have h2:=h.take (k:=m) (by omega);have p:Q8 (l.take m)<281474976710656:=by
  have h1:=q7g (l.take m);have h2:(256:Nat) ^ (l.take m).length<=256 ^ 6:=Nat.pow_le_pow_right (by omega) (by rw[List.length_take];omega);omega
 go_enter Tryz.func171,Tryz.ntmps171
 go_wp2_with (go_at_call 172;refine (q7h _ _ _ (l.take m) _ h2 (by omega)).mono ?_;rintro e y ⟨rfl,rfl⟩)
 go_ret3;exact⟨rfl,rfl⟩
theorem qpt (A:Option Addr)(k c:Nat)(l:List UInt8)(n:Int)(w:World)(h:Sl w A k c l)(h1:1<=n)(O:n<=6)(hn:n<=(k:Int))(D:n.toNat+Q8 (l.take n.toNat)<=k) :
  Calls Tryz.prog 171 #[.slice A k c,.int .i64 n] w λe y=>∃f G c1 p E c2,e=.returned (.tuple #[.slice f G c1,.slice p E c2,.bool true])/\
   Sl y f G c1 ((l.drop n.toNat).take (Q8 (l.take n.toNat)))/\Sl y p E c2 (l.drop (n.toNat+Q8 (l.take n.toNat)))/\Below w.1.size w y:=by
 obtain⟨m,rfl⟩:=Int.eq_ofNat_of_zero_le (show 0<=n by omega);rw[Int.toNat_natCast] at D ⊢;have Q:=h.cap;have hm:=h.max;unfold maxLen at hm;have H:m<=c:=by omega
 have h2:=h.take (k:=m) (by omega);generalize F:Q8 (l.take m)=v at D ⊢;have I:=Lib.hid F;clear F;have J:m+v<=c:=by omega
 obtain⟨f,K,M⟩:∃f,(if c=m then A else Option.map (λx=>x.add m) A)=f/\Sl w f (k-m) (c-m) (l.drop m):=⟨_,rfl,h.drop (by omega)⟩;obtain⟨p,b,B⟩:∃p,(if c=m+v then A else Option.map (λx=>x.add (m+v)) A)=p/\Sl w p (k-(m+v)) (c-(m+v)) (l.drop (m+v)):=⟨_,rfl,h.drop (by omega)⟩;have u:=M.take (k:=v) (by omega);go_enter Tryz.func171,Tryz.ntmps171
 go_wp2_with (go_at_call 172;refine (q7h _ _ _ (l.take m) _ h2 (by omega)).mono ?_;rw[I.out];rintro e R ⟨rfl,rfl⟩)
 go_quiet (fail)
 go_wp2
 ·have d:c=m+v:=by assumption
  subst d;go_ret3;rw[if_pos rfl] at b;subst b;rw[show m+v-m=v by omega] at u;rw[Nat.sub_self] at B;exact⟨_,_,_,_,_,_,rfl,u,B,q1g (Below.refl _ _) _⟩
 ·have d:¬c=m+v:=by assumption
  go_ret3;rw[if_neg d] at b;subst b;exact⟨_,_,_,_,_,_,rfl,u,B,q1g (Below.refl _ _) _⟩
theorem qtp (s:ByteArray)(w:World):(convert 9 31 (.string s)).run Tryz.prog w=.ok (.slice (some ⟨w.1.size,0,none⟩) s.size (grownCap w s.size 0 5)) (Lib.bytesWorld w 5 s):=
 Lib.run_convert_string_bytes w 9 31 5 s Tryz.underlying9 Tryz.underlying31 Tryz.underlying5
theorem qga (A:Option Addr)(k c:Nat)(l:List UInt8)(s:ByteArray)(w:World)(h:Sl w A k c l)(T:k<=17592186044416)(M:s.size<=255) :
  Calls Tryz.prog 210 #[.slice A k c,.string s] w λe F=>∃B D y,e=.returned (.tuple #[.slice B D y,.int .i64 0])/\Own F w.1.size 5 B D y (l++(Zc s.size 1++s.data.toList))/\Below w.1.size w F:=by
 have H:=Lib.hid h.len;have p:=qtp s;go_enter Tryz.func210,Tryz.ntmps210
 go_wp2_with (go_at_call 159;refine (qbu s.size 1 _ (by omega) (by omega)).mono ?_;rintro e E ⟨K,c1,rfl,f,d⟩)
 have hd:=q6h E 5 s;have G:=qbt E 5 s (by unfold maxLen;omega);have J:=d.size;have I:=hd.size;have m:=f.sl;rw[show Int.toNat 1=1 from rfl] at m;refine (q59 _ _ _ [l,Zc s.size 1,s.data.toList] _ (Qbj 31 ((h.below d).below hd) (m.below hd) G) (by rw[Qcu,Yl,H.out];simp;omega)).mono ?_;rintro e R ⟨Q,O,c2,rfl,b,u⟩;go_wp2;go_ret2;rw[Qco] at b;exact⟨_,_,_,rfl,b.less (by simp;omega),d.trans ((hd.mono J).trans (((Below.refl _ _).alloc (by omega) _).trans (u.mono (by simp;omega))))⟩
theorem qpu (A:Option Addr)(k c:Nat)(l:List UInt8)(n:Int)(w:World)(h:Sl w A k c l)(h1:1<=n)(m:n<=6)(d:¬G5 l n.toNat) :
  Calls Tryz.prog 171 #[.slice A k c,.int .i64 n] w λe f=>e=.returned (.tuple #[.slice none 0 0,.slice none 0 0,.bool false])/\w=f:=by
 have p:=h.len;rcases (by omega:(k:Int)<n\/n<=(k:Int)) with b|b
 ·exact qia A k c n w b
 ·refine qps A k c l n w h h1 m b ?_;unfold G5 at d;rcases Nat.lt_or_ge k (n.toNat+Q8 (l.take n.toNat)) with h2|h2
  ·exact h2
  ·exact absurd ⟨by omega,by omega⟩ d
theorem qgb (A:Option Addr)(k c:Nat)(l:List UInt8)(w:World)(h:Sl w A k c l)(b:¬G5 l 1) :
  Calls Tryz.prog 148 #[.slice A k c] w λe d=>e=.returned (.tuple #[.string ⟨#[]⟩,.slice none 0 0,.int .i64 2])/\w=d:=by
 have f:=Lib.hid b;clear b;go_enter Tryz.func148,Tryz.ntmps148
 go_wp2_with (go_at_call 171;refine (qpu _ _ _ l 1 _ h (by omega) (by omega) f.out).mono ?_;rintro e m ⟨rfl,rfl⟩)
 go_ret3;exact⟨rfl,rfl⟩
theorem qpv (A:Option Addr)(k c:Nat)(l:List UInt8)(n:Int)(w:World)(h:Sl w A k c l)(h1:1<=n)(y:n<=6)(u:G5 l n.toNat) :
  Calls Tryz.prog 171 #[.slice A k c,.int .i64 n] w λe b=>∃d f c1 m p c2,e=.returned (.tuple #[.slice d f c1,.slice m p c2,.bool true])/\
   Sl b d f c1 (bodyT l n.toNat)/\Sl b m p c2 (Uw l n.toNat)/\Below w.1.size w b:=by
 have E:=h.len;obtain⟨B,D⟩:=u;exact qpt A k c l n w h h1 y (by omega) (by omega)
theorem qef (A:Option Addr)(k c:Nat)(l:List UInt8)(w:World)(h:Sl w A k c l)(X:k<=17592186044416)(B:G5 l 1) :
  Calls Tryz.prog 148 #[.slice A k c] w λe F=>∃y u c2,e=.returned (.tuple #[.string ⟨(bodyT l 1).toArray⟩,.slice y u c2,.int .i64 0])/\
   Own F w.1.size 5 y u c2 (Uw l 1)/\Below w.1.size w F:=by
 have J:=Lib.hid h.len;have O:=Lib.hid B;clear B;have G:=qka l 1;have E:=qto l 1;go_enter Tryz.func148,Tryz.ntmps148
 go_wp2_with (go_at_call 171;refine (qpv _ _ _ l 1 _ h (by omega) (by omega) O.out).mono ?_;rintro e d ⟨H,M,c1,y,u,c2,rfl,h1,h2,p⟩)
 rw[show Int.toNat 1=1 from rfl] at h1 h2;have Q:=p.size;have T:=Ny (w:=d.drew) h1;have R:∀o,(convert 31 9 (.slice H M c1)).run Tryz.prog (d.alloc o).drew=.ok (.string ⟨(bodyT l 1).toArray⟩) (d.alloc o).drew:=λo=>Ny (w:=(d.alloc o).drew) (h1.alloc o)
 have D:(Uw l 1).length<=17592186044416:=by have:=J.out;omega
 go_region_with (go_at_call 158;refine (q59 _ _ _ [Uw l 1] _ (by first|exact Cc (w:=d) 31 h2|exact Cc (w:=d.drew) 31 h2) (by rw[Qav];omega)).mono ?_;rintro e I ⟨U,W,c3,rfl,b,m⟩;have f:Below d.1.size d I:=(by first|exact ((Below.refl _ d).alloc (Nat.le_refl _) _).drew.trans (m.mono (by simp))|exact ((Below.refl _ d).drew.alloc (Nat.le_refl _) _).trans (m.mono (by simp)));have K:=Ny (h1.below f))
 all_goals
  go_wp2;go_ret3;rw[Qal] at b;exact⟨_,_,_,rfl,b.less (by simp;omega),p.trans (f.mono Q)⟩
structure Grown (w:World) where
 to:World
 ok:Below w.heap.size w to
instance grownThere (w:World):Nonempty (Grown w):=⟨⟨w,Below.refl _ w⟩⟩
theorem Grown.cell {w:World}{a:Addr}{v:Value}(h:w.cell? a=some v)(ha:a.block<w.1.size)(u:Grown w):u.to.cell? a=some v:=(u.ok.cell ha).trans h
theorem Yc {P:Program}{d:Nat}{Q:Exit->Act->World->Prop}{a:Act}{w:World}{l:List Oper}(hm:P.follows .mixedOrders=true)(e:Region.lexB .any l.toArray=true)
  (h:wpQuiet P l.toArray (λb=>∃u:Grown w,b=u.to) (λf=>∀b,(∃u:Grown w,b=u.to)->Q .normal f b) l a):(Code.region d l.toArray true).wp P Q a w:=
 wp_region_quiet (C:=λb=>∃u:Grown w,b=u.to) hm e ⟨⟨_,(Below.refl _ w).drew⟩,rfl⟩ (by rw[List.toList_toArray];exact h)
theorem Calls.grown {P:Program}{f:FuncId}{args:Array Value}{w:World}{u:Grown w}{v:Value}
  (h:Calls P f args u.to λe b=>e=.returned v/\Below u.to.1.size u.to b):Calls P f args u.to λe d=>e=.returned v/\∃y:Grown w,d=y.to:=
 h.mono λ_ b ⟨p,m⟩=>⟨p,⟨b,u.ok.trans (m.mono u.ok.size)⟩,rfl⟩
theorem Calls.Yw {P:Program}{f:FuncId}{args:Array Value}{w:World}{u:Grown w}{v:Value}
  (h:Calls P f args u.to λe d=>e=.returned v/\u.to=d):Calls P f args u.to λe b=>e=.returned v/\∃y:Grown w,b=y.to:=
 h.mono λ_ _ ⟨p,m⟩=>⟨p,u,m.symm⟩
def Qe (n:Nat):Nat:=(n+117) / 118
theorem qcn (x:Int)(n:Nat)(f:x=(n:Int))(hn:n<=100000)(k:Nat)(b:Qe n=k)(w:World) :
  Calls Tryz.prog 82 #[.int .i64 x] w λe d=>e=.returned (.tuple #[.int .i64 (k:Int),.int .i64 (2+2*(k:Int))])/\w=d:=by
 subst f;unfold Qe at b;have h1:((n:Int)+118-1).tdiv 118=(k:Int):=by
  rw[Int.tdiv_eq_ediv_of_nonneg (by omega)];omega
 have h2:(k:Int)<=1000:=by omega
 clear b;go_enter Tryz.func82,Tryz.ntmps82
 go_wp2;go_ret2;exact⟨rfl,rfl⟩
section
variable {P:Program}{ops:Array Oper}{C:World->Prop}{n:Nat}
def q33 (P:Program)(ops:Array Oper)(C:World->Prop)(n:Nat)(L:Array Bool->Act->Prop):Nat->Array Bool->Act->Prop
 |0,s,a=>L s a
 |f+1,s,a=>Region.ready .any ops s≠[]/\∀i,i∈Region.ready .any ops s->i<n/\qOp P ops C i (λb=>q33 P ops C n L f (s.setIfInBounds i true) b) a
variable {L:Array Bool->Act->Prop}
theorem q33.run {g:Nat}{Q:Exit->Act->World->Prop}(hL:∀s a w,C w->L s a->wpAny P .any ops Q g s a w)(f:Nat):∀{s:Array Bool} {a:Act} {w:World},C w->q33 P ops C n L f s a->wpAny P .any ops Q (f+g) s a w:=by
 induction f with
 |zero=>intro s a w d h;rw[Nat.zero_add];exact hL s a w d h
 |succ f ih=>
  intro s a w d h;obtain⟨h1,h2⟩:=h;have e:f+1+g=f+g+1:=by omega
  rw[e];refine⟨λp=>absurd p h1,λi m=>?_⟩;exact wpOp_of_qOp d (λA y b u=>ih b u) (h2 i m).2
theorem q33.first {i:Nat}{o:Oper}{v:Value}(ho:ops[i]?=some o)(hsel:∀(j:Nat) (x:Oper) F b,ops[j]?=some x->x.op≠.select F b)(hs:Region.sinkB .any ops n=true)(hc:Region.chainB .any ops n=true)
  (hn:n<ops.size) (hin:i<n) (hend:∀s a,L s a->∀j,j∈Region.ready .any ops s->n<=j) (f:Nat):∀{s:Array Bool} {a:Act},HeadInv .any ops n s->
   (∀j x,ops[j]?=some x->j≠i->s.getD j true=false->(∀e∈x.after,Region.binds .any e=true->e.on≠i)->o.apart ops x=true)->i∈Region.ready .any ops s->YieldsIn P ops C o v a->
   q33 P ops C n L f (s.setIfInBounds i true) (a.put o.dst v)->q33 P ops C n L (f+1) s a:=by
 induction f with
 |zero=>
  intro s a inv p u G H;refine⟨List.ne_nil_of_mem u,λj m=>?_⟩;have d:j<n:=Classical.byContradiction λh=>tail_waits hs hc hn inv _ i rfl hin (mem_ready.1 u).1 j (by omega) m
  by_cases e:j=i
  ·subst e;exact⟨d,G.qOp ho H⟩
  ·have:=hend _ _ H j (ready_mono m e);omega
 |succ f ih=>
  intro s a inv p u G H;refine⟨List.ne_nil_of_mem u,λj m=>?_⟩;have B:=(mem_ready.1 u).1;have d:j<n:=Classical.byContradiction λh=>tail_waits hs hc hn inv _ i rfl hin B j (by omega) m
  by_cases e:j=i
  ·subst e;exact⟨d,G.qOp ho H⟩
  ·refine⟨d,?_⟩;obtain⟨D,x,K,R⟩:=mem_ready.1 m;have M:∀e∈x.after,Region.binds .any e=true->e.on≠i:=λU X Q h=>by
    have h1:=R U X Q;rw[h,getD_both B] at h1
    cases h1
   have T:=qOp_put K (p j x K e D M) (λF b=>hsel i o F b ho) (λF b=>hsel j x F b K) G (H.2 j (ready_mono m e)).2;refine qOp_mono (λY A=>?_) T;refine ih (inv.set m d) (λk y W J O I=>p k y W J ?_ I) (ready_mono u (Ne.symm e)) A.1 ?_
   ·by_cases E:j=k
    ·subst E;exact D
    ·rwa [getD_set_ne true E] at O
   ·rw[Array.setIfInBounds_comm _ _ e];exact A.2
theorem q33.lex {g:Nat}{R:Act->Prop}(hsel:Region.noSelect ops=true)(hs:Region.sinkB .any ops n=true)(hc:Region.chainB .any ops n=true)(hn:n<ops.size) :
  ∀(l:List Oper) (k:Nat) {s:Array Bool} {a:Act},(∀j,j<l.length->l[j]?=ops[k+j]?)->k+l.length=n->HeadInv .any ops n s->Region.lexHead .any ops g l.length k s=true->
   wpQuiet P ops C R l a->q33 P ops C n (λp m=>Region.seqB .any ops g n p=true/\R m) l.length s a:=by
 intro l;induction l with
 |nil=>
  intro k s a _ e _ b h;obtain rfl:k=n:=by simpa using e
  exact⟨by simpa [Region.lexHead] using b,h⟩
 |cons o l ih=>
  intro k s a u e inv b h;rw[List.length_cons] at e b;have h0:ops[k]?=some o:=by simpa using (u 0 (Nat.succ_pos _)).symm
  have d:k<n:=by omega
  simp only[Region.lexHead,Bool.and_eq_true] at b;have f:k∈Region.ready .any ops s:=by simpa using b.1.1
  obtain⟨v,y,A⟩:=yieldsIn_of_qOp (K:=λa=>wpQuiet P ops C R l a) h0 (by unfold qOp;rw[h0];exact h);refine q33.first h0 (Region.noSelect_spec hsel) hs hc hn d (λp m B=>seqB_ready B.1) l.length inv (Region.free_spec h0 b.1.2) f y ?_
  exact ih (k+1) (λj D=>by have:=u (j+1) (by simpa using D);rw[List.getElem?_cons_succ] at this;rw[this];congr 1;omega) (by omega) (inv.set f d) b.2 A
end
theorem q2c {P:Program}{E:Nat}{Q:Exit->Act->World->Prop}{a:Act}{w:World}{l:List Oper}(m:Nat)(hm:P.follows .mixedOrders=true)(D:Region.lexTailB .any l.toArray m=true)
  (h:wpQuiet P l.toArray (λb=>∃u:Grown w,b=u.to) (λf=>∀b,(∃u:Grown w,b=u.to)->wpList P l.toArray Q (l.drop m) f b) (l.take m) a):(Code.region E l.toArray true).wp P Q a w:=by
 simp only[Region.lexTailB,Bool.and_eq_true,decide_eq_true_eq] at D;obtain⟨⟨⟨⟨K,p⟩,J⟩,I⟩,O⟩:=D;have G:m<l.length:=by simpa using p
 have d:(l.take m).length=m:=by rw[List.length_take];omega
 have hd:(l.drop m).length=l.toArray.size-m:=by simp
 have M:HeadInv .any l.toArray m (Array.replicate l.toArray.size false):=
  ⟨by simp,λj x _ B=>(by rw[getD_replicate_false] at B;cases B),λt _ d=>getD_in (by simpa using d) (getD_replicate_false _ _)⟩
 have H:=q33.lex (P:=P) (C:=λb=>∃u:Grown w,b=u.to) (g:=l.toArray.size-m) K J I p (l.take m) 0 (λj y=>by rw[d] at y;simp[y]) (by omega) M (by rw[d];exact O) h;refine wp_region_any hm ?_;have:=q33.run (n:=m) (Q:=Q) (g:=l.toArray.size-m) (λs f b F A=>by
  have:=wpAny_of_seq (md:=.any) (Q':=Q) (l.drop m) m s f b (λj=>by simp[List.getElem?_drop]) (by rw[hd];exact A.1) (A.2 b F);rwa [hd] at this) _ (w:={ w with drawn:=w.drawn+1 }) ⟨⟨_,(Below.refl _ w).drew⟩,rfl⟩ H
 have e:(l.take m).length+(l.toArray.size-m)=l.toArray.size:=by rw[d];simp;omega
 rw[e] at this;exact this
