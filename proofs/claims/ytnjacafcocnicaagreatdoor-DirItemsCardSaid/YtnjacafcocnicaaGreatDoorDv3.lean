/- A region that draws its order, whose operations read and whose callees hand back plain val -/
import Derived.Test.YtnjacafcocnicaaGreatDoorDv1
import Derived.Deep.QuietTactic
import Derived.BigQuiet
import Derived.StillTail
import Derived.Deep.RegionWith
import Derived.Deep.RegionLaw
namespace Go.Proofs.YtnjacafcocnicaaGreatDoor
open Go Go.RowKit Go.Proofs Tryz
set_option maxHeartbeats 1000000
structure Grown (w:WD) where
 «to»:WD
 ok:Below w.heap.size w «to»
instance grownThere (w:WD):Nonempty (Grown w):=⟨⟨w,AI _ w⟩⟩
theorem Grown.cell {w:WD}{a:Addr}{v:Value}(h:w.cell? a=some v)(ha:a.block<w.1.size)(u:Grown w):u.to.cell? a=some v:=(u.ok.cell ha).trans h
theorem Ux {P:Program}{p:Nat}{Q:Exit->Act->WD->Prop}{a:Act}{w:WD}{l:List Oper}(hm:P.follows .mixedOrders=true)(m:Region.lexB .any l.toArray=true)
  (h:wpQuiet P l.toArray (λe=>∃u:Grown w,e=u.to) (λf=>∀e,(∃u:Grown w,e=u.to)->Q .normal f e) l a):(Code.region p l.toArray true).wp P Q a w:=
 wp_region_quiet (C:=λe=>∃u:Grown w,e=u.to) hm m ⟨⟨_,(AI _ w).drew⟩,rfl⟩ (by rw[List.toList_toArray];exact h)
theorem Calls.grown {P:Program}{f:FuncId}{args:Array Value}{w:WD}{u:Grown w}{v:Value}
  (h:Calls P f args u.to λe m=>e=.returned v/\Below u.to.1.size u.to m):Calls P f args u.to λe p=>e=.returned v/\∃A:Grown w,p=A.to:=
 h.mono λ_ m ⟨y,q⟩=>⟨y,⟨m,u.ok.trans (q.mono u.ok.size)⟩,rfl⟩
theorem Calls.Xh {P:Program}{f:FuncId}{args:Array Value}{w:WD}{u:Grown w}{v:Value}
  (h:Calls P f args u.to λe A=>e=.returned v/\u.to=A):Calls P f args u.to λe m=>e=.returned v/\∃y:Grown w,m=y.to:=
 h.mono λ_ _ ⟨p,q⟩=>⟨p,u,q.symm⟩
section
variable {P:Program}{ops:Array Oper}{C:WD->Prop}{n:Nat}
def q3b (P:Program)(ops:Array Oper)(C:WD->Prop)(n:Nat)(L:Array Bool->Act->Prop):Nat->Array Bool->Act->Prop
 |0,s,a=>L s a
 |f+1,s,a=>Region.ready .any ops s≠[]/\∀i,i∈Region.ready .any ops s->i<n/\qOp P ops C i (λe=>q3b P ops C n L f (s.setIfInBounds i true) e) a
variable {L:Array Bool->Act->Prop}
theorem q3b.run {g:Nat}{Q:Exit->Act->WD->Prop}(hL:∀s a w,C w->L s a->wpAny P .any ops Q g s a w)(f:Nat):∀{s:Array Bool} {a:Act} {w:WD},C w->q3b P ops C n L f s a->wpAny P .any ops Q (f+g) s a w:=by
 induction f with
 |zero=>intro s a w m h;rw[AT];exact hL s a w m h
 |succ f ih=>
  intro s a w m h;obtain⟨h1,h2⟩:=h;have e:f+1+g=f+g+1:=by omega
  rw[e];refine⟨λq=>absurd q h1,λi hi=>?_⟩;exact wpOp_of_qOp m (λy A p u=>ih p u) (h2 i hi).2
theorem q3b.first {i:Nat}{o:Oper}{v:Value}(ho:ops[i]?=some o)(hsel:∀(j:Nat) (x:Oper) B b,ops[j]?=some x->x.op≠.select B b)(hs:Region.sinkB .any ops n=true)(hc:Region.chainB .any ops n=true)
  (hn:n<ops.size) (hin:i<n) (hend:∀s a,L s a->∀j,j∈Region.ready .any ops s->n<=j) (f:Nat):∀{s:Array Bool} {a:Act},HeadInv .any ops n s->
   (∀j x,ops[j]?=some x->j≠i->s.getD j true=false->(∀e∈x.after,Region.binds .any e=true->e.on≠i)->o.apart ops x=true)->i∈Region.ready .any ops s->YieldsIn P ops C o v a->
   q3b P ops C n L f (s.setIfInBounds i true) (a.put o.dst v)->q3b P ops C n L (f+1) s a:=by
 induction f with
 |zero=>
  intro s a p q A I H;refine⟨List.ne_nil_of_mem A,λj u=>?_⟩;have m:j<n:=Classical.byContradiction λh=>tail_waits hs hc hn p _ i rfl hin (mem_ready.1 A).1 j (by omega) u
  by_cases e:j=i
  ·subst e;exact⟨m,I.qOp ho H⟩
  ·have:=hend _ _ H j (ready_mono u e);omega
 |succ f ih=>
  intro s a p q A I H;refine⟨List.ne_nil_of_mem A,λj u=>?_⟩;have F:=(mem_ready.1 A).1;have m:j<n:=Classical.byContradiction λh=>tail_waits hs hc hn p _ i rfl hin F j (by omega) u
  by_cases e:j=i
  ·subst e;exact⟨m,I.qOp ho H⟩
  ·refine⟨m,?_⟩;obtain⟨G,x,Q,X⟩:=mem_ready.1 u;have O:∀e∈x.after,Region.binds .any e=true->e.on≠i:=λR U T h=>by
    have h1:=X R U T;rw[h,getD_both F] at h1
    cases h1
   have W:=qOp_put Q (q j x Q e G O) (λB b=>hsel i o B b ho) (λB b=>hsel j x B b Q) I (H.2 j (ready_mono u e)).2;refine qOp_mono (λY D=>?_) W;refine ih (p.set u m) (λk y V J M K=>q k y V J ?_ K) (ready_mono A (Ne.symm e)) D.1 ?_
   ·by_cases E:j=k
    ·subst E;exact G
    ·rwa [getD_set_ne true E] at M
   ·rw[Array.setIfInBounds_comm _ _ e];exact D.2
theorem q3b.lex {g:Nat}{R:Act->Prop}(hsel:Region.noSelect ops=true)(hs:Region.sinkB .any ops n=true)(hc:Region.chainB .any ops n=true)(hn:n<ops.size) :
  ∀(l:List Oper) (k:Nat) {s:Array Bool} {a:Act},(∀j,j<l.length->l[j]?=ops[k+j]?)->k+l.length=n->HeadInv .any ops n s->Region.lexHead .any ops g l.length k s=true->
   wpQuiet P ops C R l a->q3b P ops C n (λA q=>Region.seqB .any ops g n A=true/\R q) l.length s a:=by
 intro l;induction l with
 |nil=>
  intro k s a _ p _ e h;obtain rfl:k=n:=by simpa using p
  exact⟨by simpa [Region.lexHead] using e,h⟩
 |cons o l ih=>
  intro k s a u p m e h;rw[AX] at p e;have h0:ops[k]?=some o:=by simpa using (u 0 (Nat.succ_pos _)).symm
  have f:k<n:=by omega
  simp only[Region.lexHead,BN] at e;have y:k∈Region.ready .any ops s:=by simpa using e.1.1
  obtain⟨v,F,B⟩:=yieldsIn_of_qOp (K:=λa=>wpQuiet P ops C R l a) h0 (by unfold qOp;rw[h0];exact h);refine q3b.first h0 (Region.noSelect_spec hsel) hs hc hn f (λA q D=>seqB_ready D.1) l.length m (Region.free_spec h0 e.1.2) y F ?_
  exact ih (k+1) (λj E=>by have:=u (j+1) (by simpa using E);rw[List.getElem?_cons_succ] at this;rw[this];congr 1;omega) (by omega) (m.set y f) e.2 B
end
theorem q1m {P:Program}{R:Nat}{Q:Exit->Act->WD->Prop}{a:Act}{w:WD}{l:List Oper}(m:Nat)(hm:P.follows .mixedOrders=true)(A:Region.lexTailB .any l.toArray m=true)
  (h:wpQuiet P l.toArray (λf=>∃u:Grown w,f=u.to) (λq=>∀f,(∃u:Grown w,f=u.to)->wpList P l.toArray Q (l.drop m) q f) (l.take m) a):(Code.region R l.toArray true).wp P Q a w:=by
 simp only[Region.lexTailB,BN,decide_eq_true_eq] at A;obtain⟨⟨⟨⟨F,y⟩,G⟩,I⟩,J⟩:=A;have K:m<l.length:=by simpa using y
 have p:(l.take m).length=m:=by rw[AR];omega
 have hd:(l.drop m).length=l.toArray.size-m:=by simp
 have O:HeadInv .any l.toArray m (Array.replicate l.toArray.size false):=
  ⟨by simp,λj x _ E=>(by rw[getD_replicate_false] at E;cases E),λt _ p=>getD_in (by simpa using p) (getD_replicate_false _ _)⟩
 have H:=q3b.lex (P:=P) (C:=λf=>∃u:Grown w,f=u.to) (g:=l.toArray.size-m) F G I y (l.take m) 0 (λj D=>by rw[p] at D;simp[D]) (by omega) O (by rw[p];exact J) h;refine wp_region_any hm ?_;have:=q3b.run (n:=m) (Q:=Q) (g:=l.toArray.size-m) (λs q f M B=>by
  have:=wpAny_of_seq (md:=.any) (Q':=Q) (l.drop m) m s q f (λj=>by simp[List.getElem?_drop]) (by rw[hd];exact B.1) (B.2 f M);rwa [hd] at this) _ (w:={ w with drawn:=w.drawn+1 }) ⟨⟨_,(AI _ w).drew⟩,rfl⟩ H
 have e:(l.take m).length+(l.toArray.size-m)=l.toArray.size:=by rw[p];simp;omega
 rw[e] at this;exact this
theorem q5n (A:OA)(k c:Nat)(l:LU)(n:Int)(w:WD)(h:Sl w A k c l)(U:k<=17592186044416)(h1:1<=n)(Q:n<=7)(hn:n<=(k:Int)) :
  Calls prog 154 #[.slice A k c,.int .i64 n] w λe F=>∃y E B,e=.returned (.tuple #[.int .i64 (Qq (l.take n.toNat)),.slice y E B,.int .i64 0])/\Own F w.1.size 5 y E B (l.drop n.toNat)/\Below w.1.size w F:=by
 obtain⟨m,rfl⟩:=Int.eq_ofNat_of_zero_le (show 0<=n by omega);rw[AJ];have T:=h.cap;have hm:=h.max;unfold maxLen at hm;have H:(0:Int)<=(m:Int):=by omega
 have I:(m:Int)<=(c:Int):=by omega
 have J:m<=c:=by omega
 have K:m<=k:=by omega
 have R:decide ((k:Int)<(m:Int))=false:=by simp;omega
 go_enter func154,ntmps154
 go_wp2_with fail
 have h2:=h.take (k:=m) (by omega);obtain⟨q,G,D⟩:∃q,(if c=m then A else Option.map (λx=>x.add m) A)=q/\Sl w q (k-m) (c-m) (l.drop m):=⟨_,rfl,h.drop (by omega)⟩;have p:=HI D.len;go_region_with (first
  |(go_at_call 186;go_loud (refine (q7u _ _ _ (l.take m) _ (by first|exact h2|exact h2.alloc _) (by omega)).mono ?_;rintro e M ⟨rfl,rfl⟩))
  |(go_at_call 123;refine (q56 _ _ _ [l.drop m] _ (by exact Dp (w:=w.drew) 48 D) (by rw[Qbc,p.out];omega)).mono ?_;rintro e M ⟨O,V,c1,rfl,f,u⟩))
 all_goals
  go_wp2;go_ret3;rw[Qa6] at f;refine⟨_,_,_,rfl,f.less (by simp),?_⟩;exact ((AI w.1.size w).drew.alloc (AE _) _).trans (u.mono (by simp))
theorem qdf (A:OA)(k c:Nat)(n:Int)(w:WD)(h1:1<=n)(m:n<=7)(hn:(k:Int)<n) :
  Calls prog 154 #[.slice A k c,.int .i64 n] w λe f=>e=.returned (.tuple #[.int .i64 0,.slice none 0 0,.int .i64 2])/\w=f:=by
 go_enter func154,ntmps154
 go_wp2;go_ret3;exact⟨rfl,rfl⟩
theorem qjs (A:OA)(k c:Nat)(n:Int)(w:WD)(hn:(k:Int)<n) :
  Calls prog 153 #[.slice A k c,.int .i64 n] w λe f=>e=.returned (.tuple #[.slice none 0 0,.slice none 0 0,.bool false])/\w=f:=by
 go_enter func153,ntmps153
 go_wp2;go_ret3;exact⟨rfl,rfl⟩
theorem qs6 (A:OA)(k c:Nat)(l:LU)(n:Int)(w:WD)(h:Sl w A k c l)(h1:1<=n)(u:n<=6)(hn:n<=(k:Int))(p:k<n.toNat+Qq (l.take n.toNat)) :
  Calls prog 153 #[.slice A k c,.int .i64 n] w λe q=>e=.returned (.tuple #[.slice none 0 0,.slice none 0 0,.bool false])/\w=q:=by
 obtain⟨m,rfl⟩:=Int.eq_ofNat_of_zero_le (show 0<=n by omega);rw[AJ] at p;have y:=h.cap;have hm:=h.max;unfold maxLen at hm;have f:m<=c:=by omega
 have h2:=h.take (k:=m) (by omega);have B:Qq (l.take m)<281474976710656:=by
  have h1:=q3m (l.take m);have h2:(256:Nat) ^ (l.take m).length<=256 ^ 6:=Nat.pow_le_pow_right (by omega) (by rw[AR];omega);omega
 go_enter func153,ntmps153
 go_wp2_with (go_at_call 186;refine (q7u _ _ _ (l.take m) _ h2 (by omega)).mono ?_;rintro e D ⟨rfl,rfl⟩)
 go_ret3;exact⟨rfl,rfl⟩
theorem qs7 (A:OA)(k c:Nat)(l:LU)(n:Int)(w:WD)(h:Sl w A k c l)(h1:1<=n)(Q:n<=6)(hn:n<=(k:Int))(E:n.toNat+Qq (l.take n.toNat)<=k) :
  Calls prog 153 #[.slice A k c,.int .i64 n] w λe D=>∃q G c1 u H c2,e=.returned (.tuple #[.slice q G c1,.slice u H c2,.bool true])/\
   Sl D q G c1 ((l.drop n.toNat).take (Qq (l.take n.toNat)))/\Sl D u H c2 (l.drop (n.toNat+Qq (l.take n.toNat)))/\Below w.1.size w D:=by
 obtain⟨m,rfl⟩:=Int.eq_ofNat_of_zero_le (show 0<=n by omega);rw[AJ] at E ⊢;have R:=h.cap;have hm:=h.max;unfold maxLen at hm;have M:m<=c:=by omega
 have h2:=h.take (k:=m) (by omega);generalize F:Qq (l.take m)=v at E ⊢;have I:=HI F;clear F;have O:m+v<=c:=by omega
 obtain⟨q,K,J⟩:∃q,(if c=m then A else Option.map (λx=>x.add m) A)=q/\Sl w q (k-m) (c-m) (l.drop m):=⟨_,rfl,h.drop (by omega)⟩;obtain⟨u,f,y⟩:∃u,(if c=m+v then A else Option.map (λx=>x.add (m+v)) A)=u/\Sl w u (k-(m+v)) (c-(m+v)) (l.drop (m+v)):=⟨_,rfl,h.drop (by omega)⟩;have B:=J.take (k:=v) (by omega);go_enter func153,ntmps153
 go_wp2_with (go_at_call 186;refine (q7u _ _ _ (l.take m) _ h2 (by omega)).mono ?_;rw[I.out];rintro e T ⟨rfl,rfl⟩)
 go_quiet (fail)
 go_wp2
 ·have p:c=m+v:=by assumption
  subst p;go_ret3;rw[AA rfl] at f;subst f;rw[show m+v-m=v by omega] at B;rw[Nat.sub_self] at y;exact⟨_,_,_,_,_,_,rfl,B,y,Nb (AI _ _) _⟩
 ·have p:¬c=m+v:=by assumption
  go_ret3;rw[AB p] at f;subst f;exact⟨_,_,_,_,_,_,rfl,B,y,Nb (AI _ _) _⟩
theorem Fb {w:WD}{A:OA}{n c:Nat}{l:LU}(h:Sl w A n c l):(convert 48 9 (.slice A n c)).run prog w=.ok (.string ⟨l.toArray⟩) w:=
 q68 48 9 5 Cb underlying5 underlying9 h
def Yt (l:LU)(m:Nat):Prop:=m<=l.length/\m+Qq (l.take m)<=l.length
def bodyT (l:LU)(m:Nat):LU:=(l.drop m).take (Qq (l.take m))
def Zu (l:LU)(m:Nat):LU:=l.drop (m+Qq (l.take m))
theorem qm2 (l:LU)(m:Nat):(bodyT l m).length<=l.length:=by unfold bodyT;simp;omega
theorem qf0 (l:LU)(m:Nat):(Zu l m).length<=l.length:=by unfold Zu;simp
theorem qm3 (s:ByteArray)(w:WD):(convert 9 48 (.string s)).run prog w=.ok (.slice (some ⟨w.1.size,0,none⟩) s.size (grownCap w s.size 0 5)) (Lib.bytesWorld w 5 s):=
 Lib.run_convert_string_bytes w 9 48 5 s underlying9 underlying48 underlying5
theorem q4w (A:OA)(k c:Nat)(l:LU)(s:ByteArray)(w:WD)(h:Sl w A k c l)(Q:k<=17592186044416)(R:s.size<=255) :
  Calls prog 66 #[.slice A k c,.string s] w λe F=>∃B E D,e=.returned (.tuple #[.slice B E D,.int .i64 0])/\Own F w.1.size 5 B E D (l++(Qx s.size 1++s.data.toList))/\Below w.1.size w F:=by
 have H:=HI h.len;have y:=qm3 s;go_enter func66,ntmps66
 go_wp2_with (go_at_call 124;refine (qco s.size 1 _ (by omega) (by omega)).mono ?_;rintro e G ⟨M,c1,rfl,p,m⟩)
 have hd:=q42 G 5 s;have I:=q7s G 5 s (by unfold maxLen;omega);have J:=m.size;have K:=hd.size;have q:=p.sl;rw[show Int.toNat 1=1 from rfl] at q;refine (q56 _ _ _ [l,Qx s.size 1,s.data.toList] _ (Qb3 48 ((h.below m).below hd) (q.below hd) I) (by rw[Qde,J8,H.out];simp;omega)).mono ?_;rintro e U ⟨O,T,c2,rfl,f,u⟩;go_wp2;go_ret2;rw[Qc8] at f;exact⟨_,_,_,rfl,f.less (by simp;omega),m.trans ((hd.mono J).trans (((AI _ _).alloc (by omega) _).trans (u.mono (by simp;omega))))⟩
theorem qs8 (A:OA)(k c:Nat)(l:LU)(n:Int)(w:WD)(h:Sl w A k c l)(h1:1<=n)(p:n<=6)(m:¬Yt l n.toNat) :
  Calls prog 153 #[.slice A k c,.int .i64 n] w λe q=>e=.returned (.tuple #[.slice none 0 0,.slice none 0 0,.bool false])/\w=q:=by
 have u:=h.len;rcases (by omega:(k:Int)<n\/n<=(k:Int)) with f|f
 ·exact qjs A k c n w f
 ·refine qs6 A k c l n w h h1 p f ?_;unfold Yt at m;rcases Nat.lt_or_ge k (n.toNat+Qq (l.take n.toNat)) with h2|h2
  ·exact h2
  ·exact absurd ⟨by omega,by omega⟩ m
theorem q9a (A:OA)(k c:Nat)(l:LU)(w:WD)(h:Sl w A k c l)(f:¬Yt l 1) :
  Calls prog 92 #[.slice A k c] w λe p=>e=.returned (.tuple #[.string ⟨#[]⟩,.slice none 0 0,.int .i64 2])/\w=p:=by
 have m:=HI f;clear f;go_enter func92,ntmps92
 go_wp2_with (go_at_call 153;refine (qs8 _ _ _ l 1 _ h (by omega) (by omega) m.out).mono ?_;rintro e q ⟨rfl,rfl⟩)
 go_ret3;exact⟨rfl,rfl⟩
theorem qs9 (A:OA)(k c:Nat)(l:LU)(n:Int)(w:WD)(h:Sl w A k c l)(h1:1<=n)(y:n<=6)(B:Yt l n.toNat) :
  Calls prog 153 #[.slice A k c,.int .i64 n] w λe f=>∃m q c1 p u c2,e=.returned (.tuple #[.slice m q c1,.slice p u c2,.bool true])/\
   Sl f m q c1 (bodyT l n.toNat)/\Sl f p u c2 (Zu l n.toNat)/\Below w.1.size w f:=by
 have F:=h.len;obtain⟨D,E⟩:=B;exact qs7 A k c l n w h h1 y (by omega) (by omega)
theorem q79 (A:OA)(k c:Nat)(l:LU)(w:WD)(h:Sl w A k c l)(W:k<=17592186044416)(G:Yt l 1) :
  Calls prog 92 #[.slice A k c] w λe H=>∃y B c2,e=.returned (.tuple #[.string ⟨(bodyT l 1).toArray⟩,.slice y B c2,.int .i64 0])/\
   Own H w.1.size 5 y B c2 (Zu l 1)/\Below w.1.size w H:=by
 have J:=HI h.len;have K:=HI G;clear G;have D:=qm2 l 1;have E:=qf0 l 1;go_enter func92,ntmps92
 go_wp2_with (go_at_call 153;refine (qs9 _ _ _ l 1 _ h (by omega) (by omega) K.out).mono ?_;rintro e m ⟨I,T,c1,y,B,c2,rfl,h1,h2,q⟩)
 rw[show Int.toNat 1=1 from rfl] at h1 h2;have R:=q.size;have M:=Fb (w:=m.drew) h1;have O:∀o,(convert 48 9 (.slice I T c1)).run prog (m.alloc o).drew=.ok (.string ⟨(bodyT l 1).toArray⟩) (m.alloc o).drew:=λo=>Fb (w:=(m.alloc o).drew) (h1.alloc o)
 have F:(Zu l 1).length<=17592186044416:=by have:=J.out;omega
 go_region_with (go_at_call 123;refine (q56 _ _ _ [Zu l 1] _ (by first|exact Dp (w:=m) 48 h2|exact Dp (w:=m.drew) 48 h2) (by rw[Qbc];omega)).mono ?_;rintro e U ⟨V,X,c3,rfl,f,u⟩;have p:Below m.1.size m U:=(by first|exact ((AI _ m).alloc (AE _) _).drew.trans (u.mono (by simp))|exact ((AI _ m).drew.alloc (AE _) _).trans (u.mono (by simp)));have Q:=Fb (h1.below p))
 all_goals
  go_wp2;go_ret3;rw[Qa6] at f;exact⟨_,_,_,rfl,f.less (by simp;omega),q.trans (p.mono R)⟩
def Qg (n:Nat):Nat:=(n+117) / 118
theorem qdg (x:Int)(n:Nat)(m:x=(n:Int))(hn:n<=100000)(k:Nat)(f:Qg n=k)(w:WD) :
  Calls prog 75 #[.int .i64 x] w λe p=>e=.returned (.tuple #[.int .i64 (k:Int),.int .i64 (2+2*(k:Int))])/\w=p:=by
 subst m;unfold Qg at f;have h1:((n:Int)+118-1).tdiv 118=(k:Int):=by
  rw[Int.tdiv_eq_ediv_of_nonneg (by omega)];omega
 have h2:(k:Int)<=1000:=by omega
 clear f;go_enter func75,ntmps75
 go_wp2;go_ret2;exact⟨rfl,rfl⟩
