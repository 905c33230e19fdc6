/- The code's pool, plain facts: new blocks as they are kept (of generation 0), and dated -/
import Derived.Test.YthkfkhejjmhomaaGreatDoorEs20
import Derived.Test.YthkfkhejjmhomaaGreatDoorEs21
import Derived.Lib.SliceRun
namespace Go.Proofs.YthkfkhejjmhomaaGreatDoor
open Go Go.RowKit Go.Proofs
set_option maxHeartbeats 8000000
set_option maxRecDepth 100000
def Hf (g:Int):Prop:=0<=g/\g<=1099511627775
theorem qx5 {g:Int}(h:G7 g):Hf g:=⟨Int.le_trans (by omega) h.1,h.2⟩
theorem q2a:Hf 0:=⟨by omega,by omega⟩
def Bk.hd (b:Bk)(a:Nat)(g:Int):Hd:=match b with
 |.node N=>N.head (a:Int) g
 |.bytes k l=>Na k a l.length g
def Bk.body (b:Bk):List UInt8:=match b with
 |.node N=>N.body
 |.bytes _ l=>l
structure Bk.good (b:Bk):Prop where
 hd:∀(a:Nat) (g:Int),a<=2047->Hf g->(b.hd a g).ok=true
 body:b.body.length<=236
 out:∀(a:Nat) (g:Int),a<=2047->Hf g->b.out a g=Zt (b.hd a g) b.body
theorem Bk.good.len {b:Bk}(h:b.good){a:Nat}{g:Int}(ha:a<=2047)(hg:Hf g):(b.out a g).length=256:=by
 rw[h.out a g ha hg];exact q9w _ _ h.body
theorem Bk.good.fine {b:Bk}(h:b.good):b.fine:=λ_ _ e f=>h.len e (qx5 f)
theorem Bk.good.opens {b:Bk}(h:b.good){a:Nat}{g:Int}(ha:a<=2047)(hg:Hf g):Yf (b.out a g)=b.hd a g/\Ul (b.out a g)=b.body++List.replicate (236-b.body.length) 0/\Nh (b.out a g)=0:=by
 rw[h.out a g ha hg];exact q6t _ _ (h.hd a g ha hg) h.body
def Uh (k:Int):Option Nat:=if k=5 then some 128 else if k=6 then some 236 else none
theorem qc9 {k:Int}{m:Nat}(h:Uh k=some m):(k=5\/k=6)/\m<=236:=by
 unfold Uh at h;split at h
 ·cases h;exact⟨.inl (by assumption),by omega⟩
 ·split at h
  ·cases h;exact⟨.inr (by assumption),by omega⟩
  ·cases h
theorem qx6 {k:Int}{a m:Nat}{g:Int}(f:k=5\/k=6)(e:a<=2047)(b:Hf g)(hm:m<=236):(Na k a m g).ok=true:=by
 refine decide_eq_true ⟨⟨?_,?_⟩,⟨by show (0:Int)<=0;omega,by show (0:Int)<=8;omega⟩,⟨?_,?_⟩,⟨?_,?_⟩,b.1,b.2⟩
 ·show 1<=k;omega
 ·show k<=6;omega
 ·show (0:Int)<=(a:Int);omega
 ·show (a:Int)<=2047;omega
 ·show (0:Int)<=(m:Int);omega
 ·show (m:Int)<=65535;omega
theorem qca {k:Int}{l:List UInt8}(u:k=5\/k=6)(b:l.length<=236):(Bk.bytes k l).good:=
 ⟨λ_ _ e f=>qx6 u e f b,b,λ_ _ _ _=>rfl⟩
def Pl.live (P:Pl)(a:Nat):Option Bk:=if P.C.get (a:Int)=0 then none else P.L a
structure DM.Xw (D:DM)(m:Nat):Prop where
 steps:D.steps<=m
 rows:∀s,(D.Zu s).length<=m
theorem DM.Xw.mono {D:DM}{m m':Nat}(h:D.Xw m)(hm:m<=m'):D.Xw m':=⟨Nat.le_trans h.steps hm,λs=>Nat.le_trans (h.rows s) hm⟩
theorem qkb (n:Nat):(DM.mk0 n).Xw 0:=⟨Nat.le_refl _,λ_=>Nat.le_refl _⟩
theorem q5j {D:DM}{m:Nat}(h:D.Xw m):D.stepD.Xw (m+1):=by
 refine⟨?_,λs=>Nat.le_trans (h.rows s) (by omega)⟩;have:=h.steps;show (if D.stop then D.steps else D.steps+1)<=m+1;split<;>omega
theorem qmj {D:DM}{m:Nat}(h:D.Xw m)(s:Int)(x:List UInt8):(D.Yr s x).Xw (m+1):=by
 unfold DM.Yr;split
 ·exact h.mono (by omega)
 ·split
  ·exact q5j h
  ·refine⟨(q5j h).steps,λt=>?_⟩;show (upd D.Zu s.toNat (D.Zu s.toNat++[x]) t).length<=m+1;unfold upd;split
   ·have:=h.rows s.toNat;rw[List.length_append];simp;omega
   ·exact Nat.le_trans (h.rows t) (by omega)
theorem qmk {D:DM}{m:Nat}(h:D.Xw m):D.Y9.Xw (m+1):=by
 unfold DM.Y9;split
 ·exact q5j h
 ·exact⟨(q5j h).steps,λ_=>Nat.zero_le _⟩
theorem q70 {D:DM}{m:Nat}(h:D.Xw m)(a:Stp):(D.does a).Xw (m+1):=by
 cases a with
 |w s x=>exact qmj h s x
 |fl=>exact qmk h
theorem q71:∀(l:List Stp) {D:DM} {m:Nat},D.Xw m->(D.Qx l).Xw (m+l.length)
 |[],_,_,h=>h
 |a::l,D,m,h=>by
  show (if D.says a=0 then (D.does a).Qx l else D.does a).Xw (m+(l.length+1));split
  ·exact (q71 l (q70 h a)).mono (by omega)
  ·exact (q70 h a).mono (by omega)
theorem qw4 (D:DM)(a:Stp):(D.does a).n=D.n:=by
 cases a with
 |w s x=>show (D.Yr s x).n=D.n;unfold DM.Yr;split;rfl;split<;>rfl
 |fl=>show D.Y9.n=D.n;unfold DM.Y9;split<;>rfl
theorem qx7:∀(l:List Stp) (D:DM),(D.Qx l).n=D.n
 |[],_=>rfl
 |a::l,D=>by
  show (if D.says a=0 then (D.does a).Qx l else D.does a).n=D.n;split
  ·rw[qx7 l,qw4]
  ·exact qw4 D a
theorem qaj (l:List Stp)(a:Stp)(D:DM):D.Jj (l++[a])=if D.Jj l=0 then (D.Qx l).says a else D.Jj l:=by
 rw[q43];split
 ·show (if (D.Qx l).says a=0 then (0:Int) else (D.Qx l).says a)=_;split
  ·rename_i h;exact h.symm
  ·rfl
 ·rfl
theorem qak (l:List Stp)(a:Stp)(D:DM):D.Qx (l++[a])=if D.Jj l=0 then (D.Qx l).does a else D.Qx l:=by
 rw[q44];split
 ·show (if (D.Qx l).says a=0 then (D.Qx l).does a else (D.Qx l).does a)=_;split<;>rfl
 ·rfl
theorem q6d {l l':List Stp}{D:DM}(h:D.Jj l≠0):D.Jj (l++l')=D.Jj l/\D.Qx (l++l')=D.Qx l:=by
 rw[q43,q44,if_neg h,if_neg h];exact⟨rfl,rfl⟩
section
open Go.ChangeMaps (setBlock)
structure PH (cur:Array Value)(d m:Nat)(S:Sp):Prop where
 size:cur.size=41
 disk:cur[0]?=some (.pointer (some ⟨d,0,none⟩))
 sup:∀(j:Nat) x,S.vs[j]?=some x->cur[1+j]?=some x
 fresh:cur[40]?=some (.map (some m))
structure PL (w:World)(p d m:Nat)(cur:Array Value)(l:List MapEntry)(clock:Nat)(v:Nat->Value)(Sc S T:Nat->Prop)(P:Pl):Prop where
 me:w.heap[p]?=some (.cells cur 125 (0,0))
 ph:PH cur d m P.S
 ct:Yu w p 36 Sc P.C
 map:w.heap[m]?=some (.map l.toArray clock)
 ents:Un l clock
 look:∀a:Nat,Zg a l=(P.live a).map λ_=>v a
 keys:∀e∈l,∃a:Nat,a<P.C.n/\kI e=a
 row:∀a b,P.live a=some b->∃g c,v a=.slice (some ⟨g,0,none⟩) 256 c/\Sl w (some ⟨g,0,none⟩) 256 c (b.out a 0)/\¬T g
 good:∀a b,P.L a=some b->b.good
 Yj:S p/\S m/\(∀k,Sc k->S k)
 ne:∀k,Sc k->k≠p/\k≠m
 sub:∀k,S k->T k
 ok:P.ok
 F8:P.S.fine
def Pool (w:World)(p d:Nat)(S T:Nat->Prop)(P:Pl):Prop:=∃m cur l clock v Sc,PL w p d m cur l clock v Sc S T P
section
variable {w w':World}{p d m clock:Nat}{cur:Array Value}{l:List MapEntry}{v:Nat->Value}{Sc S T:Nat->Prop}{P:Pl}
theorem PL.p_m (L:PL w p d m cur l clock v Sc S T P):p≠m:=λe=>by
 have h:=L.me;rw[e,L.map] at h;cases h
theorem PL.Iq (L:PL w p d m cur l clock v Sc S T P):p<w.1.size:=Wx L.me
theorem PL.mlt (L:PL w p d m cur l clock v Sc S T P):m<w.1.size:=Wx L.map
theorem PL.keep (L:PL w p d m cur l clock v Sc S T P)(hk:∀k,k<w.1.size->S k\/¬T k->w'.1[k]?=w.1[k]?)(hz:w.1.size<=w'.1.size):PL w' p d m cur l clock v Sc S T P:=by
 have B:=hk p L.Iq (.inl L.Yj.1);have F:=hk m L.mlt (.inl L.Yj.2.1);refine⟨B.trans L.me,L.ph,L.ct.keep B λk y A=>hk k y (.inl (L.Yj.2.2 k A)),F.trans L.map,L.ents,L.look,L.keys,λa b h=>?_,L.good,L.Yj,L.ne,L.sub,L.ok,L.F8⟩;obtain⟨g,c,e,A,D⟩:=L.row a b h;refine⟨g,c,e,?_,D⟩;exact stay_slice A hz λf=>hk g f (.inr D)
 where
 stay_slice {w w':World} {g n c:Nat} {x:List UInt8} (h:Sl w (some ⟨g,0,none⟩) n c x) (hz:w.1.size<=w'.1.size) (f:g<w.1.size->w'.1[g]?=w.1[g]?):Sl w' (some ⟨g,0,none⟩) n c x:=
  ⟨h.1,h.2.1,h.2.2.1,λj u H=>by
   obtain⟨I,e,E,G⟩:=h.2.2.2 j u H;injection e with e;subst e;exact⟨_,rfl,Nat.lt_of_lt_of_le E hz,(World.cell?_of_block (a:=(⟨g,0,none⟩:Addr).add j) (by rw[Nl];exact f E)).trans G⟩⟩
theorem PL.other (L:PL w p d m cur l clock v Sc S T P){S':Nat->Prop}(t:Turn S' w w')(hT:∀k,S' k->T k)(hS:∀k,S' k->¬S k):PL w' p d m cur l clock v Sc S T P:=
 L.keep (λk e h=>t.block k e λb=>h.elim (hS k b) λh2=>h2 (hT k b)) t.size
theorem PL.below (L:PL w p d m cur l clock v Sc S T P)(hb:Below w.1.size w w'):PL w' p d m cur l clock v Sc S T P:=L.keep (λk b _=>hb.block k b) hb.size
theorem PL.mono {S' T':Nat->Prop}(L:PL w p d m cur l clock v Sc S T P)(hS:∀k,k<w.1.size->S k->S' k)(hT:∀k,k<w.1.size->T' k->T k)(hST:∀k,S' k->T' k):PL w p d m cur l clock v (λk=>Sc k/\k<w.1.size) S' T' P:=
 ⟨L.me,L.ph,L.ct.shrink,L.map,L.ents,L.look,L.keys,λa b h=>by
  obtain⟨g,c,e,A,D⟩:=L.row a b h;have y:g<w.1.size:=by
   have h1:=A.len;obtain⟨E,u,B,_⟩:=A.2.2.2 0 (bv ((b.out a 0).getD 0 0)) (by rw[List.getElem?_map,List.getD_eq_getElem?_getD,List.getElem?_eq_getElem (by omega)];rfl);injection u with u;subst u;exact B
  exact⟨g,c,e,A,λh=>D (hT g y h)⟩,L.good,⟨hS p L.Iq L.Yj.1,hS m L.mlt L.Yj.2.1,λk f=>hS k f.2 (L.Yj.2.2 k f.1)⟩,λk f=>L.ne k f.1,hST,L.ok,L.F8⟩
theorem PL.c0 (L:PL w p d m cur l clock v Sc S T P):w.cell? ⟨p,0,none⟩=some (.pointer (some ⟨d,0,none⟩)):=q3d L.me L.ph.disk
theorem PL.c40 (L:PL w p d m cur l clock v Sc S T P):w.cell? ⟨p,40,none⟩=some (.map (some m)):=q3d L.me L.ph.fresh
theorem PL.Qa1 (L:PL w p d m cur l clock v Sc S T P){C':Ct}(t:Turn Sc w w')(H:Yu w' p 36 Sc C')(hn:C'.n=P.C.n)(hlive:∀a:Nat,C'.get (a:Int)=0↔P.C.get (a:Int)=0)(hok:Pl.ok ⟨P.S,C',P.L⟩):PL w' p d m cur l clock v Sc S T ⟨P.S,C',P.L⟩:=by
 have B:=t.block p L.Iq λh=>(L.ne p h).1 rfl
 have hm:=t.block m L.mlt λh=>(L.ne m h).2 rfl
 have u:∀a,Pl.live ⟨P.S,C',P.L⟩ a=P.live a:=λa=>by
  unfold Pl.live;by_cases h:P.C.get (a:Int)=0
  ·rw[if_pos h,if_pos ((hlive a).2 h)]
  ·rw[if_neg h,if_neg λh2=>h ((hlive a).1 h2)]
 refine⟨B.trans L.me,L.ph,H,hm.trans L.map,L.ents,λa=>by rw[u a];exact L.look a,λe y=>by rw[hn];exact L.keys e y,λa b h=>?_,L.good,L.Yj,L.ne,L.sub,hok,L.F8⟩;rw[u a] at h;obtain⟨g,c,e,D,f⟩:=L.row a b h;exact⟨g,c,e,PL.keep.stay_slice D t.size λA=>t.block g A λh=>f (L.sub g (L.Yj.2.2 g h)),f⟩
end
theorem Pool.below {w w':World}{p d:Nat}{S T:Nat->Prop}{P:Pl}(h:Pool w p d S T P)(hb:Below w.1.size w w'):Pool w' p d S T P:=by
 obtain⟨m,cur,l,clock,v,Sc,L⟩:=h;exact⟨m,cur,l,clock,v,Sc,L.below hb⟩
theorem Pool.other {w w':World}{p d:Nat}{S T:Nat->Prop}{P:Pl}(h:Pool w p d S T P){S':Nat->Prop}(t:Turn S' w w')(hT:∀k,S' k->T k)(hS:∀k,S' k->¬S k):Pool w' p d S T P:=by
 obtain⟨m,cur,l,clock,v,Sc,L⟩:=h;exact⟨m,cur,l,clock,v,Sc,L.other t hT hS⟩
theorem Pool.mono {w:World}{p d:Nat}{S T S' T':Nat->Prop}{P:Pl}(h:Pool w p d S T P)(hS:∀k,k<w.1.size->S k->S' k)(hT:∀k,k<w.1.size->T' k->T k)(hST:∀k,S' k->T' k):Pool w p d S' T' P:=by
 obtain⟨m,cur,l,clock,v,Sc,L⟩:=h;exact⟨m,cur,l,clock,v,_,L.mono hS hT hST⟩
theorem Pool.ok {w:World}{p d:Nat}{S T:Nat->Prop}{P:Pl}(h:Pool w p d S T P):P.ok:=by
 obtain⟨m,cur,l,clock,v,Sc,L⟩:=h;exact L.ok
end
theorem qfu (S:Sp)(n:Nat)(H:S.Qb=(n:Int))(hn:n<=2048)(F:0<=S.gen/\S.gen<=1099511627776)(w:World) :
  Calls Tryz.prog 132 #[.agg S.vs.toArray] w λe w'=>e=.returned (.tuple #[.int .i64 (Qw n S.gen:Int),.int .i64 (Ql n:Int)])/\Below w.1.size w w':=by
 have A:=SB.new w S 120;have D:Below w.1.size w (w.alloc (.cells S.vs.toArray 120)):=Qn;have K:=A.c1;have J:=A.c0;rw[H] at K;obtain⟨g,f⟩:∃g,S.gen=g:=⟨_,rfl⟩;rw[f] at J F ⊢;obtain⟨U,W⟩:=F;obtain⟨b,hm⟩:∃m,Ql n=m:=⟨_,rfl⟩;have R:b<=18:=by unfold Ql at hm;omega
 obtain⟨t,I⟩:∃t,(g % 2).toNat=t:=⟨_,rfl⟩;have X:t<2:=by omega
 have Y:g.tmod 2=(t:Int):=by rw[Int.tmod_eq_emod_of_nonneg (by omega)];omega
 obtain⟨u,y⟩:∃u,b*t=u:=⟨_,rfl⟩;have Z:u<=18:=by rw[<-y];rcases (show t=0\/t=1 by omega) with e|e<;>rw[e]<;>omega
 have G:(t:Int)*(b:Int)=(u:Int):=by rw[<-y,Int.mul_comm];exact (Int.natCast_mul b t).symm
 obtain⟨a,E⟩:∃a,2+u=a:=⟨_,rfl⟩;have O:(2:Int)+(u:Int)=(a:Int):=by omega
 have Q:a<=20:=by omega
 have B:=Lib.hid (show Qw n g=a by unfold Qw;rw[hm,I,y,E]);have M:=Lib.hid hm;rw[hm];clear hm I y E H f A;go_enter Tryz.func132,Tryz.ntmps132
 go_wp2_with fail
 generalize w.alloc (.cells S.vs.toArray 120)=w1 at D J K ⊢;refine (qda (n:Int) n rfl (by omega) b M.out w1).mono ?_;rintro e w2 ⟨rfl,rfl⟩;go_wp2;go_ret2;rw[B.out];exact⟨rfl,D⟩
theorem q6e {ops:Array Oper}{f:List Oper}{o:Oper}{a:Act}{w:World}{Q:Exit->Act->World->Prop}(E:o.guard=none)(x y:Operand)(u:o.op=Op.store 198 x y)
  (b:Nat) (A:a.eval x=.pointer (some ⟨b,0,none⟩)) (h h0:Hd) (F:a.eval y=h.v) (H:HB w b h0) (I:b<w.1.size)
  (D:∀w',HB w' b h->(∀B,B<=b->Below B w w')->Turn (λk=>k=b) w w'->wpList Tryz.prog ops Q f (a.put o.dst undef) w'):wpList Tryz.prog ops Q (o::f) a w:=by
 refine wpList_store_mid E _ x y u b 0 h.vs.toArray A F H.there (by kernel_rfl) (by simp[Hd.vs,Value.oneCell']) ?_;have T:=Um (S:=λk=>k=b) rfl h.vs 0 w;refine D _ ?_ (λB G=>T.below (λx A=>by omega) (by omega)) T;obtain⟨t,H⟩:=H;have e:=q0z b t h.vs 0 w h0.vs H (by show 0+5<=5;omega);rw[q41 h0.vs h.vs rfl] at e;exact⟨t,e⟩
theorem q72 (a g:Int)(w:World):Calls Tryz.prog 133 #[.int .i64 a,.int .i64 g] w λe w'=>e=.returned (.agg #[.int .i64 2,.int .i64 a,.int .i64 0,.int .i64 0,.int .i64 g])/\Below w.1.size w w':=by
 have u:=HB.zero w 198;have y:Below w.1.size w (w.alloc (.cells #[.int .i64 0,.int .i64 0,.int .i64 0,.int .i64 0,.int .i64 0] 198)):=Qn;go_enter Tryz.func133,Tryz.ntmps133
 go_wp2_with (first
  |(refine Rl rfl _ _ rfl w.1.size rfl ⟨2,a,0,0,g⟩ _ rfl u (by simp) ?_;intro B f b A)
  |fail)
 refine bodyPost_ret (q2o Tryz.results133 rfl (q8t f)) rfl ?_;exact⟨rfl,y.trans (b _ (Nat.le_refl _))⟩
def Qaf (k:Int):Int:=match Uh k with|some m=>(m:Int)|none=>0
theorem qfv (k:Int)(w:World):Calls Tryz.prog 120 #[.int .i64 k] w λe w'=>e=.returned (.tuple #[.int .i64 (Qaf k),.bool (Uh k).isSome])/\w=w':=by
 by_cases b:k=5
 ·subst b;go_enter Tryz.func120,Tryz.ntmps120
  go_wp2;go_ret2;exact⟨rfl,rfl⟩
 ·by_cases f:k=6
  ·subst f;go_enter Tryz.func120,Tryz.ntmps120
   go_wp2;go_ret2;exact⟨rfl,rfl⟩
  ·have u:(k==5)=false:=by simpa using b
   have y:(k==6)=false:=by simpa using f
   have hm:=Lib.hid (show Uh k=none by unfold Uh;rw[if_neg b,if_neg f]);go_enter Tryz.func120,Tryz.ntmps120
   go_wp2;go_ret2;unfold Qaf;rw[hm.out];exact⟨rfl,rfl⟩
theorem Vp.below {w w':World}{d:Nat}{S:Nat->Prop}{D:DM}(L:Vp w d S D)(hb:Below w.1.size w w'):Vp w' d S D:=L.keep λk b _=>hb.block k b
theorem Vp.Qb {w:World}{d:Nat}{S:Nat->Prop}{D:DM}(L:Vp w d S D):Go.Proofs.YthkfkhejjmhomaaGreatDoor.Qb D.n:=by
 obtain⟨b,e,l,clock,v,L⟩:=L;exact L.n32
structure Ip (w0 w:World)(d:Nat)(S:Nat->Prop)(D:DM):Prop where
 Ba:Vp w d (λk=>S k\/w0.heap.size<=k) D
 turn:Turn S w0 w
theorem Vp.dsk {w:World}{d:Nat}{S:Nat->Prop}{D:DM}(L:Vp w d S D):Ip w w d S D:=⟨L.mono λ_ _ h=>.inl h,Turn.refl _ _⟩
theorem Ip.below {w0 w w':World}{d:Nat}{S:Nat->Prop}{D:DM}(L:Ip w0 w d S D)(hb:Below w.1.size w w'):Ip w0 w' d S D:=⟨L.Ba.below hb,L.turn.trans (Qu hb) λ_ b=>.inl b⟩
theorem q2r {y w:World}{d:Nat}{S:Nat->Prop}{D:DM}(L:Ip y w d S D){m:Nat}(f:D.Xw m)(hm:m<=900000)(s:Nat)(z:Int)(u:z=(s:Int))(A:Option Addr)(n c:Nat)(x:List UInt8)(h:Sl w A n c x) :
  Calls Tryz.prog 130 #[.pointer (some ⟨d,0,none⟩),.int .i64 z,.slice A n c] w λe w'=>e=.returned (.int .i64 (D.says (.w s x)))/\Ip y w' d S (D.does (.w s x)):=by
 subst u;refine (qol L.Ba (s:Int) A n c x h (by have:=f.steps;omega) λk=>by have:=f.rows k;omega).mono ?_;rintro e w' ⟨rfl,R,T⟩;have u:=L.turn.size;exact⟨rfl,R.mono λk _ b=>b.elim id λh=>.inr (by omega),L.turn.trans T λk b=>b⟩
theorem q3j {f w:World}{d:Nat}{S:Nat->Prop}{D:DM}(L:Ip f w d S D){m:Nat}(b:D.Xw m)(hm:m<=900000) :
  Calls Tryz.prog 135 #[.pointer (some ⟨d,0,none⟩)] w λe w'=>e=.returned (.int .i64 (D.says .fl))/\Ip f w' d S (D.does .fl):=by
 refine (qov L.Ba (by have:=b.steps;omega) λk=>by have:=b.rows k;omega).mono ?_;rintro e w' ⟨rfl,R,T⟩;exact⟨rfl,R,L.turn.trans T λk u=>u⟩
def DM.Ut (D:DM)(l:List Stp):Bool:=decide (D.Jj l=0)
theorem qml {w:World}{d:Nat}{S:Nat->Prop}{D:DM}(L:Vp w d S D){m:Nat}(ht:D.Xw m)(hm:m<=800000) :
  Calls Tryz.prog 88 #[.pointer (some ⟨d,0,none⟩)] w λe w'=>e=.returned (.bool (D.Ut (Va D.n)))/\Ip w w' d S (D.Qx (Va D.n)):=by
 have L0:=L.dsk;have hA:Va D.n=[.w 0 Du,.w 1 Du]++[.fl]:=rfl;have hw:∀j,j<2->([.w 0 Du,.w 1 Du]:List Stp).take (j+1)=([.w 0 Du,.w 1 Du]:List Stp).take j++[.w j Du]:=λj hj=>by
  rcases (show j=0\/j=1 by omega) with e|e<;>subst e<;>rfl
 obtain⟨u,J⟩:∃W:List Stp,[.w 0 Du,.w 1 Du]=W:=⟨_,rfl⟩;rw[J] at hA hw;have X:u.length=2:=by rw[<-J];rfl
 have HA:=Lib.hid hA;have HW:=Lib.hid hw;have HL:=Lib.hid X;clear hA hw J X;go_enter Tryz.func88,Tryz.ntmps88
 go_wp2_with fail
 go_loopw [3,4] (λ_ i wr=>∃j:Nat,j<=2/\i=.int .i64 (j:Int)/\D.Jj (u.take j)=0/\Ip w wr d S (D.Qx (u.take j))) (λ_ i _=>2-(intOf i).toNat)
 case atStart=>exact⟨0,by omega,rfl,rfl,L0⟩
 case round=>
  clear L0;obtain⟨j,hj,rfl,hE,Z⟩:=hrel;have G:=q71 (u.take j) ht;have a2:(u.take j).length<=2:=by rw[List.length_take];omega
  obtain⟨H,I⟩:∃H,D.Qx (u.take j)=H:=⟨_,rfl⟩;rw[I] at Z G;have B:=Lib.hid I;have Y:=Lib.hid hE;clear I hE;by_cases a1:j<2
  ·have e3:(j:Int)<2:=by omega
   have M:=Lib.hid (HW.out j a1);have R:=Lib.hid (show D.Jj (u.take (j+1))=H.says (.w j Du) by rw[M.out,qaj,if_pos Y.out,B.out]);have Q:=Lib.hid (show D.Qx (u.take (j+1))=H.does (.w j Du) by rw[M.out,qak,if_pos Y.out,B.out]);obtain⟨E,U⟩:∃E,H.says (.w j Du)=E:=⟨_,rfl⟩;have F:=Lib.hid U;clear U;by_cases h0:E=0
   ·have nb:(E != 0)=false:=by simpa using h0
    have H0:=Lib.hid h0;clear h0;go_wp2_with (first
     |(at_make;refine q7g _ Az rfl _ _ rfl _ _ 256 rfl rfl (by omega) ?_;intro w3 A K;have L3:=Z.below K)
     |(go_at_call 130;refine (q2r L3 G (by omega) j _ rfl _ 256 256 Du A.sl).mono ?_;rw[F.out];rintro e w4 ⟨rfl,O⟩)
     |fail)
    exact⟨⟨j+1,by omega,by go_num,R.out.trans (F.out.trans H0.out),by rw[Q.out];exact O⟩,by simp[intOf];omega⟩
   ·have nb:(E != 0)=true:=by simpa using h0
    have f:D.Jj (u.take (j+1))≠0:=λh=>h0 (F.out.symm.trans (R.out.symm.trans h))
    have y:Va D.n=u.take (j+1)++(u.drop (j+1)++[.fl]):=by rw[HA.out,<-List.append_assoc,List.take_append_drop]
    obtain⟨r1,r2⟩:=q6d (l':=u.drop (j+1)++[.fl]) f;have R1:=Lib.hid (show D.Ut (Va D.n)=false by unfold DM.Ut;rw[y,r1];exact decide_eq_false f);have R2:=Lib.hid (show D.Qx (Va D.n)=H.does (.w j Du) by rw[y,r2,Q.out]);clear y r1 r2 f h0;go_wp2_with (first
     |(at_make;refine q7g _ Az rfl _ _ rfl _ _ 256 rfl rfl (by omega) ?_;intro w3 A K;have L3:=Z.below K)
     |(go_at_call 130;refine (q2r L3 G (by omega) j _ rfl _ 256 256 Du A.sl).mono ?_;rw[F.out];rintro e w4 ⟨rfl,O⟩)
     |fail)
    go_ret;exact⟨by rw[R1.out];rfl,by rw[R2.out];exact O⟩
  ·have a0:j=2:=by omega
   subst a0;have b:u.take 2=u:=List.take_of_length_le (by rw[HL.out];exact Nat.le_refl _);have R1:=Lib.hid (show D.Ut (Va D.n)=decide (H.says .fl=0) by unfold DM.Ut;rw[HA.out,qaj,<-b,if_pos Y.out,B.out]);have R2:=Lib.hid (show D.Qx (Va D.n)=H.does .fl by rw[HA.out,qak,<-b,if_pos Y.out,B.out]);clear b;go_wp2_with (first
    |(go_at_call 135;refine (q3j Z G (by omega)).mono ?_;rintro e w4 ⟨rfl,O⟩)
    |fail)
   go_ret;exact⟨by rw[R1.out];rfl,by rw[R2.out];exact O⟩
section
theorem Tab.turned {w w':World}{S:Nat->Prop}(h:Tab w)(T:Turn S w w')(hS:¬S 1):Tab w':=
 ⟨Nat.lt_of_lt_of_le h.1 T.size,λk b=>(World.cell?_of_block (a:=⟨1,k,none⟩) (T.block _ h.1 hS)).trans (h.2 k b)⟩
theorem Vp.tight {w:World}{d:Nat}{S:Nat->Prop}{D:DM}(L:Vp w d S D):Vp w d (λk=>S k/\k<w.1.size) D:=L.mono λ_ h1 h2=>⟨h2,h1⟩
theorem Ip.from {w0 w1 w:World}{d:Nat}{S:Nat->Prop}{D:DM}(L:Ip w1 w d (λk=>S k/\k<w0.1.size) D)(b:Below w0.1.size w0 w1):Ip w0 w d S D:=
 ⟨L.Ba.mono λk _ e=>e.elim (λh=>.inl h.1) λh=>.inr (by have:=b.size;omega),(Qu b |>.mono (S':=S) λ_ h=>h).trans L.turn λ_ e=>.inl e.1⟩
def Uu (C:Ct)(S:Sp):List Stp:=Me (Fh (Qw C.n S.gen) (Ko C S.gen)) (S.gen % 2).toNat (swB S (S.gen % 2))
theorem q5k (D:DM)(a:Stp)(l:List Stp):D.Jj (a::l)=(if D.says a=0 then (D.does a).Jj l else D.says a)/\D.Qx (a::l)=(if D.says a=0 then (D.does a).Qx l else D.does a):=⟨rfl,rfl⟩
theorem qts {D:DM}{A:List Stp}(slot:Nat)(b:List UInt8)(h:D.Jj A=0):D.Jj (Me A slot b)=(D.Qx A).Jj [.fl,.w slot b,.fl]/\D.Qx (Me A slot b)=(D.Qx A).Qx [.fl,.w slot b,.fl]:=by
 unfold Me;rw[q43,q44,if_pos h,if_pos h];exact⟨rfl,rfl⟩
theorem qph (D:DM)(a:Stp):D.Jj [a]=D.says a/\D.Qx [a]=D.does a:=by
 rw[(q5k D a []).1,(q5k D a []).2];constructor
 ·split
  ·rename_i h;exact h.symm
  ·rfl
 ·split<;>rfl
attribute [local go_sem ↓] q23
theorem qi8 {w:World}{d pc o:Nat}{S0 Sc:Nat->Prop}{D:DM}{C:Ct}(L:Vp w d S0 D)(H:Yu w pc o Sc C)(b3:∀k,S0 k->k≠pc/\¬Sc k)(hG:¬S0 1)(S:Sp)(a0:S.may=true)(X:S.fine)(b0:S.Qb=(C.n:Int))(ht:Tab w){m:Nat}(g0:D.Xw m)(hm:m<=800000) :
  Calls Tryz.prog 78 #[.pointer (some ⟨d,0,none⟩),.agg S.vs.toArray,.pointer (some ⟨pc,o,none⟩)] w λe w'=>e=.returned (.bool (D.Ut (Uu C S)))/\Ip w w' d S0 (D.Qx (Uu C S)):=by
 have d3:=H.ok.1;have Z:=(q1g a0).1;have hg:G7 S.gen:=⟨Z.1,Z.2.1⟩;obtain⟨g,f⟩:∃g,S.gen=g:=⟨_,rfl⟩;rw[f] at hg;obtain⟨ar,y⟩:∃m,Ql C.n=m:=⟨_,rfl⟩;have g5:ar<=18:=by unfold Ql at y;omega
 obtain⟨t,d5⟩:∃t,(g % 2).toNat=t:=⟨_,rfl⟩;have b:g % 2=(t:Int):=by have:=hg.1;omega
 have i3:t<2:=by omega
 have g7:g.tmod 2=(t:Int):=by rw[Int.tmod_eq_emod_of_nonneg (by have:=hg.1;omega)];exact b
 obtain⟨a,ha⟩:∃a,Qw C.n g=a:=⟨_,rfl⟩;have g9:a<=40:=by
  rw[<-ha];unfold Qw;rw[y,d5];rcases (show t=0\/t=1 by omega) with e|e<;>rw[e]<;>omega
 obtain⟨sb,d4⟩:∃x,swB S (t:Int)=x:=⟨_,rfl⟩;have a3:Ye S (t:Int)=true:=by unfold Ye;rw[a0,Bool.true_and];exact decide_eq_true ⟨by omega,by omega⟩
 have b8:=(qjz a3).1;obtain⟨W,hW⟩:∃W,Fh (Qw C.n S.gen) (Ko C S.gen)=W:=⟨_,rfl⟩;have b7:Uu C S=Me W t sb:=by unfold Uu;rw[hW,f,b,d4,<-b,d5]
 have e6:W.length=ar:=by rw[<-hW,qi4,q3h,y]
 have e7:∀j,j<ar->W.take (j+1)=W.take j++[.w (a+j) (Zt (U4 C.n g j) (C.body (j:Int)))]:=λj hj=>by
  rw[<-hW,qti _ _ (by rw[q3h,y];exact hj),qk6 _ _ (by rw[y];exact hj),f,ha]
 have a1:∀j,j<ar->Xb ⟨2,((a+j:Nat):Int),0,0,g⟩ (C.body (j:Int))=0/\Xg ⟨2,((a+j:Nat):Int),0,0,g⟩ (C.body (j:Int))=Zt (U4 C.n g j) (C.body (j:Int)):=λj hj=>by
  have f1:=qp7 d3.1 d3.2 hg (i:=j) (by rw[y];exact hj);have e8:=Ct.Ue (C:=C) (i:=j) (by rw[y];exact hj);have f6:U4 C.n g j=⟨2,((a+j:Nat):Int),0,0,g⟩:=by unfold U4;rw[ha]
  rw[<-f6];unfold Xb Xg;rw[if_pos f1,if_pos f1,if_pos (by rw[e8];exact Nat.le_refl _),if_pos (by rw[e8];exact Nat.le_refl _)];exact⟨rfl,rfl⟩
 have hA:=qfu S C.n b0 d3.2 ⟨by rw[f];have:=hg.1;omega,by rw[f];have:=hg.2;omega⟩;rw[f,ha,y] at hA;have HA:=Lib.hid hA;have HS:=Lib.hid b7;have d9:=Lib.hid e6;have f5:=Lib.hid e7;have c9:=Lib.hid a1;have g8:=Lib.hid b;have e1:=Lib.hid d4;have e4:=Lib.hid b8;have g4:=Lib.hid a3;have K:=Lib.hid X;have a9:=Lib.hid b3;have f4:=Lib.hid hG;have X1:=SB.new w S 120;have b1:Below w.1.size w (w.alloc (.cells S.vs.toArray 120)):=Qn;have M:=L.tight.below b1;have H1:=H.below b1;have t1:=ht.below b1 ht.1;have i0:=H.lt;have i4:=ht.1;clear hA b7 hW e6 e7 a1 Z b d4 b8 a3 X ha b0 b3 hG a0 d5 hg L ht H;have f2:=X1.ld;go_enter Tryz.func78,Tryz.ntmps78
 go_wp2_with fail
 generalize w.alloc (.cells S.vs.toArray 120)=w1 at b1 M H1 t1 X1 f2 ⊢;refine (HA.out w1).mono ?_;rintro e w2 ⟨rfl,b2⟩;have L2:=M.below b2;have H2:=H1.below b2;have t2:=t1.below b2 t1.1;have X2:=X1.below b2 X1.lt;have B2:=b1.trans (b2.mono b1.size);have g1:w.1.size<w2.1.size:=X2.lt;clear f2 M H1 t1 X1 b1 b2;have L0:=L2.dsk;have a2:∀wr,Turn (λk=>S0 k/\k<w.1.size) w2 wr->SB wr w.1.size S/\Yu wr pc o Sc C/\Tab wr:=λwr T=>
  ⟨X2.block (T.block _ g1 (λh=>by have:=h.2;omega)),H2.keep (T.block pc (by omega) λh=>(a9.out pc h.1).1 rfl) (λk hk hs=>T.block k hk λh=>(a9.out k h.1).2 hs),t2.turned T λh=>f4.out h.1⟩
 have e2:=Lib.hid a2;clear a2 X2 H2 t2 L2;go_wp2_with fail
 go_loopw [9,10,11,21] (λ_ _ _ i wr=>∃j:Nat,j<=ar/\i=.int .i64 (j:Int)/\D.Jj (W.take j)=0/\Ip w2 wr d (λk=>S0 k/\k<w.1.size) (D.Qx (W.take j))) (λ_ _ _ i _=>ar-(intOf i).toNat)
 case atStart=>exact⟨0,by omega,rfl,rfl,L0⟩
 case round=>
  clear L0;obtain⟨j,hj,rfl,hE,M⟩:=hrel;have J:=q71 (W.take j) g0;have g6:(W.take j).length<=18:=by rw[List.length_take,d9.out];omega
  obtain⟨D1,d1⟩:∃D1,D.Qx (W.take j)=D1:=⟨_,rfl⟩;rw[d1] at M J;have b9:=Lib.hid d1;have HE:=Lib.hid hE;obtain⟨X3,H3,t3⟩:=e2.out wr M.turn;clear d1 hE;by_cases f3:j<ar
  ·have e3:(j:Int)<(ar:Int):=by omega
   have e0:=Lib.hid (f5.out j f3);obtain⟨s1,s2⟩:=c9.out j f3;obtain⟨x,hx⟩:∃x,Zt (U4 C.n g j) (C.body (j:Int))=x:=⟨_,rfl⟩;rw[hx] at s2;obtain⟨s,hs⟩:∃s,a+j=s:=⟨_,rfl⟩;rw[hs] at s1 s2;have i1:(a:Int)+(j:Int)=(s:Int):=by omega
   have i2:s<=100:=by omega
   have G:=Lib.hid (show D.Jj (W.take (j+1))=D1.says (.w s x) by rw[e0.out,qaj,if_pos HE.out,b9.out,hx,hs]);have u:=Lib.hid (show D.Qx (W.take (j+1))=D1.does (.w s x) by rw[e0.out,qak,if_pos HE.out,b9.out,hx,hs]);have S1:=Lib.hid s1;have S2:=Lib.hid s2;have q0:=X3.c0;rw[f] at q0;obtain⟨E,e5⟩:∃E,D1.says (.w s x)=E:=⟨_,rfl⟩;have a6:=Lib.hid e5;clear e5 hx hs s1 s2;by_cases h0:E=0
   ·have nb:(E != 0)=false:=by simpa using h0
    have H0:=Lib.hid h0;clear h0;go_wp2_with (first
     |(go_at_call 133;refine (q72 _ g wr).mono ?_;rintro e w4 ⟨rfl,O⟩;have H4:=H3.below O;have t4:=t3.below O t3.1)
     |(go_at_call 134;refine (qfh H4 (j:Int)).mono ?_;rintro e w5 ⟨V,n5,c5,rfl,s5,Q,_⟩;have t5:=t4.below Q t4.1)
     |(go_at_call 122;refine (q5t ⟨2,(s:Int),0,0,g⟩ V n5 c5 _ w5 s5 t5).mono ?_;rw[S1.out,S2.out];rintro e w6 ⟨A6,n6,c6,rfl,a5,f7,b6⟩;have L6:=M.below (O.trans ((Q.mono O.size).trans (b6.mono (Nat.le_trans O.size Q.size)))))
     |(go_at_call 130;refine (q2r L6 J (by omega) s _ rfl A6 n6 c6 x a5.sl).mono ?_;rw[a6.out];rintro e w7 ⟨rfl,L7⟩)
     |fail)
    exact⟨⟨j+1,by omega,by go_num,G.out.trans (a6.out.trans H0.out),by rw[u.out];exact L7⟩,by simp[intOf];omega⟩
   ·have nb:(E != 0)=true:=by simpa using h0
    have I:D.Jj (W.take (j+1))≠0:=λh=>h0 (a6.out.symm.trans (G.out.symm.trans h))
    have U:Uu C S=W.take (j+1)++(W.drop (j+1)++.fl::[.w t sb,.fl]):=by rw[HS.out];unfold Me;rw[<-List.append_assoc,List.take_append_drop]
    obtain⟨B,F⟩:=q6d (l':=W.drop (j+1)++.fl::[.w t sb,.fl]) I;have R1:=Lib.hid (show D.Ut (Uu C S)=false by unfold DM.Ut;rw[U,B];exact decide_eq_false I);have R2:=Lib.hid (show D.Qx (Uu C S)=D1.does (.w s x) by rw[U,F,u.out]);clear U B F I h0;go_wp2_with (first
     |(go_at_call 133;refine (q72 _ g wr).mono ?_;rintro e w4 ⟨rfl,O⟩;have H4:=H3.below O;have t4:=t3.below O t3.1)
     |(go_at_call 134;refine (qfh H4 (j:Int)).mono ?_;rintro e w5 ⟨V,n5,c5,rfl,s5,Q,_⟩;have t5:=t4.below Q t4.1)
     |(go_at_call 122;refine (q5t ⟨2,(s:Int),0,0,g⟩ V n5 c5 _ w5 s5 t5).mono ?_;rw[S1.out,S2.out];rintro e w6 ⟨A6,n6,c6,rfl,a5,f7,b6⟩;have L6:=M.below (O.trans ((Q.mono O.size).trans (b6.mono (Nat.le_trans O.size Q.size)))))
     |(go_at_call 130;refine (q2r L6 J (by omega) s _ rfl A6 n6 c6 x a5.sl).mono ?_;rw[a6.out];rintro e w7 ⟨rfl,L7⟩)
     |fail)
    go_ret;exact⟨by rw[R1.out];rfl,by rw[R2.out];exact L7.from B2⟩
  ·have f8:j=ar:=by omega
   subst f8;have Y:W.take j=W:=List.take_of_length_le (by rw[d9.out];exact Nat.le_refl _);have d2:=HE.out;have d0:=b9.out;rw[Y] at d2 d0;obtain⟨B,F⟩:=qts (D:=D) (A:=W) t sb d2;rw[d0,<-HS.out] at B F;have e3:¬(j:Int)<(j:Int):=by omega
   have a8:=q70 J .fl;obtain⟨E1,G⟩:∃E,D1.says .fl=E:=⟨_,rfl⟩;obtain⟨D2,u⟩:∃E,D1.does .fl=E:=⟨_,rfl⟩;rw[u] at a8;rw[(q5k _ _ _).1,G,u] at B;rw[(q5k _ _ _).2,G,u] at F;have c8:=Lib.hid G;have c7:=Lib.hid u;clear G u d2 d0 Y;by_cases h1:E1=0
   ·have g2:(E1 != 0)=false:=by simpa using h1
    rw[if_pos h1] at B F;have f0:=q70 a8 (.w t sb);obtain⟨E2,a7⟩:∃E,D2.says (.w t sb)=E:=⟨_,rfl⟩;obtain⟨D3,R⟩:∃E,D2.does (.w t sb)=E:=⟨_,rfl⟩;rw[R] at f0;rw[(q5k _ _ _).1,a7,R] at B;rw[(q5k _ _ _).2,a7,R] at F;have d8:=Lib.hid a7;have d7:=Lib.hid R;clear a7 R h1;have q0:=X3.c0;rw[f] at q0;have e9:=Lib.hid (λ(w':World) (l':Ip w2 w' d (λk=>S0 k/\k<w.1.size) D2)=>e2.out w' l'.turn);by_cases h2:E2=0
    ·rw[if_pos h2,(qph _ _).1] at B;rw[if_pos h2,(qph _ _).2] at F;have g3:(E2==0)=true:=by simpa using h2
     have R1:=Lib.hid (show D.Ut (Uu C S)=decide (D3.says .fl=0) by unfold DM.Ut;rw[B]);have R2:=Lib.hid F;clear B F h2;go_wp2_with (first
      |(go_at_call 135;refine (q3j M J (by omega)).mono ?_;rw[c8.out,c7.out];rintro e w4 ⟨rfl,L4⟩;obtain⟨X4,H4,t4⟩:=e9.out w4 L4;have d6:=X4.c0;rw[f] at d6;have f9:=X4.ld)
      |(go_at_call 136;refine (q7x S (t:Int) K.out w4 t4).mono ?_;rw[e4.out,e1.out];rintro e w5 ⟨A5,n5,c5,rfl,a4,_,Q⟩;have L5:=L4.below Q)
      |(go_at_call 130;refine (q2r L5 a8 (by omega) t _ rfl A5 n5 c5 sb a4.sl).mono ?_;rw[d8.out,d7.out];rintro e w6 ⟨rfl,L6⟩)
      |(go_at_call 135;have hh:=L6;refine (q3j L6 f0 (by omega)).mono ?_;rintro e w7 ⟨rfl,L7⟩)
      |fail)
     go_ret;exact⟨by rw[R1.out];rfl,by rw[R2.out];exact L7.from B2⟩
    ·rw[if_neg h2] at B F;have g3:(E2==0)=false:=by simpa using h2
     have R1:=Lib.hid (show D.Ut (Uu C S)=false by unfold DM.Ut;rw[B];exact decide_eq_false h2);have R2:=Lib.hid F;clear B F h2;go_wp2_with (first
      |(go_at_call 135;refine (q3j M J (by omega)).mono ?_;rw[c8.out,c7.out];rintro e w4 ⟨rfl,L4⟩;obtain⟨X4,H4,t4⟩:=e9.out w4 L4;have d6:=X4.c0;rw[f] at d6;have f9:=X4.ld)
      |(go_at_call 136;refine (q7x S (t:Int) K.out w4 t4).mono ?_;rw[e4.out,e1.out];rintro e w5 ⟨A5,n5,c5,rfl,a4,_,Q⟩;have L5:=L4.below Q)
      |(go_at_call 130;refine (q2r L5 a8 (by omega) t _ rfl A5 n5 c5 sb a4.sl).mono ?_;rw[d8.out,d7.out];rintro e w6 ⟨rfl,L6⟩)
      |fail)
     go_ret;exact⟨by rw[R1.out];rfl,by rw[R2.out];exact L6.from B2⟩
   ·have g2:(E1 != 0)=true:=by simpa using h1
    rw[if_neg h1] at B F;have R1:=Lib.hid (show D.Ut (Uu C S)=false by unfold DM.Ut;rw[B];exact decide_eq_false h1);have R2:=Lib.hid F;clear B F h1;go_wp2_with (first
     |(go_at_call 135;refine (q3j M J (by omega)).mono ?_;rw[c8.out,c7.out];rintro e w4 ⟨rfl,L4⟩)
     |fail)
    go_ret;exact⟨by rw[R1.out];rfl,by rw[R2.out];exact L4.from B2⟩
end
theorem qkc {l:List UInt8}{slot:Int}(h:Xf l slot=true):(Gm l slot).may=true:=by
 rw[(qk3 h).1];unfold Xf at h;rw[Bool.and_eq_true,Bool.and_eq_true] at h;have:=h.2.1;unfold Ye at this;rw[Bool.and_eq_true] at this;exact this.1
theorem qyt {a b:List UInt8}(h:Ez a b=0):(snS a b).may=true:=by
 by_cases h1:Xf a 0=false/\Xf b 1=false
 ·rw[(Qcp h1.1 h1.2).2.2] at h
  cases h
 ·by_cases h2:(Gm a 0).gen<(Gm b 1).gen
  ·rw[(Qb1 h1 h2).1]
   cases f:Xf b 1
   ·cases e:Xf a 0
    ·exact absurd ⟨e,f⟩ h1
    ·have u:=(q1g (qkc e)).1.1;rw[(qi7 f).1] at h2;have:Sp.zero.gen=0:=rfl;omega
   ·exact qkc f
  ·rw[(Qb0 h1 h2).1]
   cases e:Xf a 0
   ·cases f:Xf b 1
    ·exact absurd ⟨e,f⟩ h1
    ·have u:=(q1g (qkc f)).1.1;rw[(qi7 e).1] at h2;have:Sp.zero.gen=0:=rfl;omega
   ·exact qkc e
theorem qkd {S:Sp}(h:S.may=true):S.fine:=λk b=>by
 have:=q6x h k b;unfold maxLen;omega
theorem qtt {n:Nat}{e:List (List UInt8)}(h:J9 (n:Int) e=0):(32<=n/\n<=2048)/\e.length=Ql n/\∀i,i<Ql n->q4s n (2+2*Ql n) i (nth e i):=by
 unfold J9 at h;split at h
 ·cases h
 ·rename_i h1;have h1:=Decidable.of_not_not h1;rw[Int.toNat_natCast] at h;split at h
  ·cases h
  ·rename_i h2;refine⟨by omega,?_,?_⟩
   ·exact Classical.byContradiction λb=>h2 (.inl b)
   ·exact Classical.byContradiction λb=>h2 (.inr b)
theorem qi9 (n:Nat)(b:List (List UInt8)):(Vr n b).n=n:=qab _ _ _
theorem qyu {n:Nat}{b:List (List UInt8)}(h:J9 (n:Int) b=0):(Vr n b).res:=by
 obtain⟨h1,h2,A⟩:=qtt h;intro a y u;rw[qi9] at y;have D:a<2+2*Ql n:=by unfold Ct.first at u;rw[qi9] at u;exact u
 have e:nm (Vr n b).now a=nm (Yv n b (Ql n)).now a:=rfl;rw[e,qac n b (Ql n) a y];split
 ·rename_i F;have E:a / 118<Ql n:=by omega
  have f:=(A _ E).2 (a % 118) (Nat.mod_lt _ (by omega));unfold Yq at f;have f:=of_decide_eq_false f;exact Classical.byContradiction λB=>f ⟨B,.inl (by omega)⟩
 ·rfl
