/- The code's pool, plain facts: new blocks as they are kept (of generation 0), and dated -/
import Derived.Test.YthkfkhejjmhomaaGreatDoorDz17
import Derived.Test.YthkfkhejjmhomaaGreatDoorDz19
import Derived.Test.YthkfkhejjmhomaaGreatDoorDz22
import Derived.Lib.SliceRun
namespace Go.Proofs.YthkfkhejjmhomaaGreatDoor
open Go Go.RowKit Go.Proofs
set_option maxHeartbeats 2000000
set_option maxRecDepth 100000
def Xj (g:Int):Prop:=0<=g/\g<=1099511627775
theorem F8 {g:Int}(h:Xk g):Xj g:=⟨Int.le_trans (by omega) h.1,h.2⟩
theorem Rx:Xj 0:=⟨by omega,by omega⟩
def Bk.hd (b:Bk)(a:Nat)(g:Int):Hd:=match b with
 |.node N=>N.head (a:Int) g
 |.bytes k l=>Wq k a l.length g
def Bk.body (b:Bk):List UInt8:=match b with
 |.node N=>N.body
 |.bytes _ l=>l
structure Bk.good (b:Bk):Prop where
 hd:∀(a:Nat) (g:Int),a<=2047->Xj g->(b.hd a g).ok=true
 body:b.body.length<=236
 out:∀(a:Nat) (g:Int),a<=2047->Xj g->b.out a g=Zl (b.hd a g) b.body
theorem Bk.good.len {b:Bk}(h:b.good){a:Nat}{g:Int}(ha:a<=2047)(hg:Xj g):(b.out a g).length=256:=by
 rw[h.out a g ha hg];exact Ut _ _ h.body
theorem Bk.good.fine {b:Bk}(h:b.good):b.fine:=λ_ _ e f=>h.len e (F8 f)
theorem Bk.good.opens {b:Bk}(h:b.good){a:Nat}{g:Int}(ha:a<=2047)(hg:Xj g):Vk (b.out a g)=b.hd a g/\Gf (b.out a g)=b.body++List.replicate (236-b.body.length) 0/\Cm (b.out a g)=0:=by
 rw[h.out a g ha hg];exact Qc1 _ _ (h.hd a g ha hg) h.body
def Kr (k:Int):Option Nat:=if k=5 then some 128 else if k=6 then some 236 else none
theorem Qr3 {k:Int}{m:Nat}(h:Kr k=some m):(k=5\/k=6)/\m<=236:=by
 unfold Kr at h;split at h
 ·cases h;exact⟨.inl (by assumption),by omega⟩
 ·split at h
  ·cases h;exact⟨.inr (by assumption),by omega⟩
  ·cases h
def Pl.live (P:Pl)(a:Nat):Option Bk:=if P.C.get (a:Int)=0 then none else P.L a
structure DM.Y4 (D:DM)(m:Nat):Prop where
 steps:D.steps<=m
 rows:∀s,(D.Zd s).length<=m
theorem DM.Y4.mono {D:DM}{m m':Nat}(h:D.Y4 m)(hm:m<=m'):D.Y4 m':=⟨Nat.le_trans h.steps hm,λs=>Nat.le_trans (h.rows s) hm⟩
theorem Qqh (n:Nat):(DM.mk0 n).Y4 0:=⟨Nat.le_refl _,λ_=>Nat.le_refl _⟩
theorem Qck {D:DM}{m:Nat}(h:D.Y4 m):D.stepD.Y4 (m+1):=by
 refine⟨?_,λs=>Nat.le_trans (h.rows s) (by omega)⟩;have:=h.steps;show (if D.stop then D.steps else D.steps+1)<=m+1;split<;>omega
theorem Qsz {D:DM}{m:Nat}(h:D.Y4 m)(s:Int)(x:List UInt8):(D.Jd s x).Y4 (m+1):=by
 unfold DM.Jd;split
 ·exact h.mono (by omega)
 ·split
  ·exact Qck h
  ·refine⟨(Qck h).steps,λt=>?_⟩;show (upd D.Zd s.toNat (D.Zd s.toNat++[x]) t).length<=m+1;unfold upd;split
   ·have:=h.rows s.toNat;rw[List.length_append];simp;omega
   ·exact Nat.le_trans (h.rows t) (by omega)
theorem Qsy {D:DM}{m:Nat}(h:D.Y4 m):D.Z5.Y4 (m+1):=by
 unfold DM.Z5;split
 ·exact Qck h
 ·exact⟨(Qck h).steps,λ_=>Nat.zero_le _⟩
theorem Qd0 {D:DM}{m:Nat}(h:D.Y4 m)(a:Stp):(D.does a).Y4 (m+1):=by
 cases a with
 |w s x=>exact Qsz h s x
 |fl=>exact Qsy h
theorem Qdf:∀(l:List Stp) {D:DM} {m:Nat},D.Y4 m->(D.Qn l).Y4 (m+l.length)
 |[],_,_,h=>h
 |a::l,D,m,h=>by
  show (if D.says a=0 then (D.does a).Qn l else D.does a).Y4 (m+(l.length+1));split
  ·exact (Qdf l (Qd0 h a)).mono (by omega)
  ·exact (Qd0 h a).mono (by omega)
theorem Qx8 (D:DM)(a:Stp):(D.does a).n=D.n:=by
 cases a with
 |w s x=>show (D.Jd s x).n=D.n;unfold DM.Jd;split;rfl;split<;>rfl
 |fl=>show D.Z5.n=D.n;unfold DM.Z5;split<;>rfl
theorem Zap:∀(l:List Stp) (D:DM),(D.Qn l).n=D.n
 |[],_=>rfl
 |a::l,D=>by
  show (if D.says a=0 then (D.does a).Qn l else D.does a).n=D.n;split
  ·rw[Zap l,Qx8]
  ·exact Qx8 D a
theorem Qgv (l:List Stp)(a:Stp)(D:DM):D.Jo (l++[a])=if D.Jo l=0 then (D.Qn l).says a else D.Jo l:=by
 rw[Qbd];split
 ·show (if (D.Qn l).says a=0 then (0:Int) else (D.Qn l).says a)=_;split
  ·rename_i h;exact h.symm
  ·rfl
 ·rfl
theorem Qgu (l:List Stp)(a:Stp)(D:DM):D.Qn (l++[a])=if D.Jo l=0 then (D.Qn l).does a else D.Qn l:=by
 rw[Qbc];split
 ·show (if (D.Qn l).says a=0 then (D.Qn l).does a else (D.Qn l).does a)=_;split<;>rfl
 ·rfl
theorem Qdb {l l':List Stp}{D:DM}(h:D.Jo l≠0):D.Jo (l++l')=D.Jo l/\D.Qn (l++l')=D.Qn l:=by
 rw[Qbd,Qbc,if_neg h,if_neg h];exact⟨rfl,rfl⟩
section
open Go.ChangeMaps (setBlock)
structure PH (cur:Array Value)(d m:Nat)(S:Sp):Prop where
 size:cur.size=41
 disk:cur[0]?=some (.pointer (some ⟨d,0,none⟩))
 sup:∀(j:Nat) x,S.vs[j]?=some x->cur[1+j]?=some x
 fresh:cur[40]?=some (.map (some m))
structure PL (w:World)(p d m:Nat)(cur:Array Value)(l:List MapEntry)(clock:Nat)(v:Nat->Value)(Sc S T:Nat->Prop)(P:Pl):Prop where
 me:w.heap[p]?=some (.cells cur 125 (0,0))
 ph:PH cur d m P.S
 ct:Jg w p 36 Sc P.C
 map:w.heap[m]?=some (.map l.toArray clock)
 ents:Jl l clock
 look:∀a:Nat,Qd a l=(P.live a).map λ_=>v a
 keys:∀e∈l,∃a:Nat,a<P.C.n/\kI e=a
 row:∀a b,P.live a=some b->∃g c,v a=.slice (some ⟨g,0,none⟩) 256 c/\Sl w (some ⟨g,0,none⟩) 256 c (b.out a 0)/\¬T g
 good:∀a b,P.L a=some b->b.good
 Zk:S p/\S m/\(∀k,Sc k->S k)
 ne:∀k,Sc k->k≠p/\k≠m
 sub:∀k,S k->T k
 ok:P.ok
 Jz:P.S.fine
def Pool (w:World)(p d:Nat)(S T:Nat->Prop)(P:Pl):Prop:=∃m cur l clock v Sc,PL w p d m cur l clock v Sc S T P
section
variable {w w':World}{p d m clock:Nat}{cur:Array Value}{l:List MapEntry}{v:Nat->Value}{Sc S T:Nat->Prop}{P:Pl}
theorem PL.Vm (L:PL w p d m cur l clock v Sc S T P):p≠m:=λe=>by
 have h:=L.me;rw[e,L.map] at h;cases h
theorem PL.Yw (L:PL w p d m cur l clock v Sc S T P):p<w.1.size:=Jq L.me
theorem PL.mlt (L:PL w p d m cur l clock v Sc S T P):m<w.1.size:=Jq L.map
theorem PL.keep (L:PL w p d m cur l clock v Sc S T P)(hk:∀k,k<w.1.size->S k\/¬T k->w'.1[k]?=w.1[k]?)(hz:w.1.size<=w'.1.size):PL w' p d m cur l clock v Sc S T P:=by
 have z:=hk p L.Yw (.inl L.Zk.1);have D:=hk m L.mlt (.inl L.Zk.2.1);refine⟨z.trans L.me,L.ph,L.ct.keep z λk q y=>hk k q (.inl (L.Zk.2.2 k y)),D.trans L.map,L.ents,L.look,L.keys,λa b h=>?_,L.good,L.Zk,L.ne,L.sub,L.ok,L.Jz⟩;obtain⟨g,c,e,y,A⟩:=L.row a b h;refine⟨g,c,e,?_,A⟩;exact stay_slice y hz λf=>hk g f (.inr A)
 where
 stay_slice {w w':World} {g n c:Nat} {x:List UInt8} (h:Sl w (some ⟨g,0,none⟩) n c x) (hz:w.1.size<=w'.1.size) (f:g<w.1.size->w'.1[g]?=w.1[g]?):Sl w' (some ⟨g,0,none⟩) n c x:=
  ⟨h.1,h.2.1,h.2.2.1,λj u F=>by
   obtain⟨G,e,B,E⟩:=h.2.2.2 j u F;injection e with e;subst e;exact⟨_,rfl,Nat.lt_of_lt_of_le B hz,(World.cell?_of_block (a:=(⟨g,0,none⟩:Addr).add j) (by rw[Y7];exact f B)).trans E⟩⟩
theorem PL.other (L:PL w p d m cur l clock v Sc S T P){S':Nat->Prop}(t:Turn S' w w')(hT:∀k,S' k->T k)(hS:∀k,S' k->¬S k):PL w' p d m cur l clock v Sc S T P:=
 L.keep (λk f h=>t.block k f λe=>h.elim (hS k e) λh2=>h2 (hT k e)) t.size
theorem PL.below (L:PL w p d m cur l clock v Sc S T P)(hb:Below w.1.size w w'):PL w' p d m cur l clock v Sc S T P:=L.keep (λk e _=>hb.block k e) hb.size
theorem PL.mono {S' T':Nat->Prop}(L:PL w p d m cur l clock v Sc S T P)(hS:∀k,k<w.1.size->S k->S' k)(hT:∀k,k<w.1.size->T' k->T k)(hST:∀k,S' k->T' k):PL w p d m cur l clock v (λk=>Sc k/\k<w.1.size) S' T' P:=
 ⟨L.me,L.ph,L.ct.shrink,L.map,L.ents,L.look,L.keys,λa b h=>by
  obtain⟨g,c,e,y,A⟩:=L.row a b h;have u:g<w.1.size:=by
   have h1:=y.len;obtain⟨B,q,z,_⟩:=y.2.2.2 0 (bv ((b.out a 0).getD 0 0)) (by rw[List.getElem?_map,List.getD_eq_getElem?_getD,List.getElem?_eq_getElem (by omega)];rfl);injection q with q;subst q;exact z
  exact⟨g,c,e,y,λh=>A (hT g u h)⟩,L.good,⟨hS p L.Yw L.Zk.1,hS m L.mlt L.Zk.2.1,λk f=>hS k f.2 (L.Zk.2.2 k f.1)⟩,λk f=>L.ne k f.1,hST,L.ok,L.Jz⟩
theorem PL.c0 (L:PL w p d m cur l clock v Sc S T P):w.cell? ⟨p,0,none⟩=some (.pointer (some ⟨d,0,none⟩)):=Fa L.me L.ph.disk
theorem PL.c40 (L:PL w p d m cur l clock v Sc S T P):w.cell? ⟨p,40,none⟩=some (.map (some m)):=Fa L.me L.ph.fresh
theorem PL.Ze3 (L:PL w p d m cur l clock v Sc S T P){C':Ct}(t:Turn Sc w w')(H:Jg w' p 36 Sc C')(hn:C'.n=P.C.n)(hlive:∀a:Nat,C'.get (a:Int)=0↔P.C.get (a:Int)=0)(hok:Pl.ok ⟨P.S,C',P.L⟩):PL w' p d m cur l clock v Sc S T ⟨P.S,C',P.L⟩:=by
 have z:=t.block p L.Yw λh=>(L.ne p h).1 rfl
 have hm:=t.block m L.mlt λh=>(L.ne m h).2 rfl
 have q:∀a,Pl.live ⟨P.S,C',P.L⟩ a=P.live a:=λa=>by
  unfold Pl.live;by_cases h:P.C.get (a:Int)=0
  ·rw[if_pos h,if_pos ((hlive a).2 h)]
  ·rw[if_neg h,if_neg λh2=>h ((hlive a).1 h2)]
 refine⟨z.trans L.me,L.ph,H,hm.trans L.map,L.ents,λa=>by rw[q a];exact L.look a,λe u=>by rw[hn];exact L.keys e u,λa b h=>?_,L.good,L.Zk,L.ne,L.sub,hok,L.Jz⟩;rw[q a] at h;obtain⟨g,c,e,A,f⟩:=L.row a b h;exact⟨g,c,e,PL.keep.stay_slice A t.size λy=>t.block g y λh=>f (L.sub g (L.Zk.2.2 g h)),f⟩
end
theorem Pool.below {w w':World}{p d:Nat}{S T:Nat->Prop}{P:Pl}(h:Pool w p d S T P)(hb:Below w.1.size w w'):Pool w' p d S T P:=by
 obtain⟨m,cur,l,clock,v,Sc,L⟩:=h;exact⟨m,cur,l,clock,v,Sc,L.below hb⟩
theorem Pool.other {w w':World}{p d:Nat}{S T:Nat->Prop}{P:Pl}(h:Pool w p d S T P){S':Nat->Prop}(t:Turn S' w w')(hT:∀k,S' k->T k)(hS:∀k,S' k->¬S k):Pool w' p d S T P:=by
 obtain⟨m,cur,l,clock,v,Sc,L⟩:=h;exact⟨m,cur,l,clock,v,Sc,L.other t hT hS⟩
theorem Pool.mono {w:World}{p d:Nat}{S T S' T':Nat->Prop}{P:Pl}(h:Pool w p d S T P)(hS:∀k,k<w.1.size->S k->S' k)(hT:∀k,k<w.1.size->T' k->T k)(hST:∀k,S' k->T' k):Pool w p d S' T' P:=by
 obtain⟨m,cur,l,clock,v,Sc,L⟩:=h;exact⟨m,cur,l,clock,v,_,L.mono hS hT hST⟩
theorem Pool.ok {w:World}{p d:Nat}{S T:Nat->Prop}{P:Pl}(h:Pool w p d S T P):P.ok:=by
 obtain⟨m,cur,l,clock,v,Sc,L⟩:=h;exact L.ok
end
theorem Qlv (S:Sp)(n:Nat)(G:S.Qa=(n:Int))(hn:n<=2048)(E:0<=S.gen/\S.gen<=1099511627776)(w:World) :
  Calls Tryz.prog 132 #[.agg S.vs.toArray] w λe w'=>e=.returned (.tuple #[.int .i64 (Qh n S.gen:Int),.int .i64 (Qi n:Int)])/\Below w.1.size w w':=by
 have z:=SB.new w S 120;have B:Below w.1.size w (w.alloc (.cells S.vs.toArray 120)):=Ib;have J:=z.c1;have I:=z.c0;rw[G] at J;obtain⟨g,q⟩:∃g,S.gen=g:=⟨_,rfl⟩;rw[q] at I E ⊢;obtain⟨R,U⟩:=E;obtain⟨f,hm⟩:∃m,Qi n=m:=⟨_,rfl⟩;have Q:f<=18:=by unfold Qi at hm;omega
 obtain⟨t,H⟩:∃t,(g % 2).toNat=t:=⟨_,rfl⟩;have V:t<2:=by omega
 have W:g.tmod 2=(t:Int):=by rw[Int.tmod_eq_emod_of_nonneg (by omega)];omega
 obtain⟨u,y⟩:∃u,f*t=u:=⟨_,rfl⟩;have X:u<=18:=by rw[<-y];rcases (show t=0\/t=1 by omega) with e|e<;>rw[e]<;>omega
 have F:(t:Int)*(f:Int)=(u:Int):=by rw[<-y,Int.mul_comm];exact (Int.natCast_mul f t).symm
 obtain⟨a,D⟩:∃a,2+u=a:=⟨_,rfl⟩;have M:(2:Int)+(u:Int)=(a:Int):=by omega
 have O:a<=20:=by omega
 have A:=Lib.hid (show Qh n g=a by unfold Qh;rw[hm,H,y,D]);have K:=Lib.hid hm;rw[hm];clear hm H y D G q z;go_enter Tryz.func132,Tryz.ntmps132
 go_wp2_with fail
 generalize w.alloc (.cells S.vs.toArray 120)=Y at B I J ⊢;refine (Qkd (n:Int) n rfl (by omega) f K.out Y).mono ?_;rintro e Z ⟨rfl,rfl⟩;go_wp2;go_ret2;rw[A.out];exact⟨rfl,B⟩
theorem Qdh {g:Array Oper}{f:List Oper}{o:Oper}{a:Act}{w:World}{Q:Exit->Act->World->Prop}(A:o.guard=none)(x y:Operand)(q:o.op=Op.store 198 x y)
  (b:Nat) (u:a.eval x=.pointer (some ⟨b,0,none⟩)) (h h0:Hd) (D:a.eval y=h.v) (H:HB w b h0) (F:b<w.1.size)
  (z:∀w',HB w' b h->(∀B,B<=b->Below B w w')->Turn (λk=>k=b) w w'->wpList Tryz.prog g Q f (a.put o.dst undef) w'):wpList Tryz.prog g Q (o::f) a w:=by
 refine wpList_store_mid A _ x y q b 0 h.vs.toArray u D H.there (by kernel_rfl) (by simp[Hd.vs,Value.oneCell']) ?_;have T:=Gg (S:=λk=>k=b) rfl h.vs 0 w;refine z _ ?_ (λB E=>T.below (λx u=>by omega) (by omega)) T;obtain⟨t,H⟩:=H;have e:=Me b t h.vs 0 w h0.vs H (by show 0+5<=5;omega);rw[Qbe h0.vs h.vs rfl] at e;exact⟨t,e⟩
theorem Qdu (a g:Int)(w:World):Calls Tryz.prog 133 #[.int .i64 a,.int .i64 g] w λe w'=>e=.returned (.agg #[.int .i64 2,.int .i64 a,.int .i64 0,.int .i64 0,.int .i64 g])/\Below w.1.size w w':=by
 have u:=HB.zero w 198;have y:Below w.1.size w (w.alloc (.cells #[.int .i64 0,.int .i64 0,.int .i64 0,.int .i64 0,.int .i64 0] 198)):=Ib;go_enter Tryz.func133,Tryz.ntmps133
 go_wp2_with (first
  |(refine Lm rfl _ _ rfl w.1.size rfl ⟨2,a,0,0,g⟩ _ rfl u (by simp) ?_;intro A q f z)
  |fail)
 refine bodyPost_ret (Sv Tryz.results133 rfl (Qdp q)) rfl ?_;exact⟨rfl,y.trans (f _ (Nat.le_refl _))⟩
theorem Drv.below {w w':World}{d:Nat}{S:Nat->Prop}{D:DM}(L:Drv w d S D)(hb:Below w.1.size w w'):Drv w' d S D:=L.keep λk e _=>hb.block k e
theorem Drv.Qa {w:World}{d:Nat}{S:Nat->Prop}{D:DM}(L:Drv w d S D):Go.Proofs.YthkfkhejjmhomaaGreatDoor.Qa D.n:=by
 obtain⟨e,f,l,clock,v,L⟩:=L;exact L.n32
structure Y5 (w0 w:World)(d:Nat)(S:Nat->Prop)(D:DM):Prop where
 Vh:Drv w d (λk=>S k\/w0.heap.size<=k) D
 turn:Turn S w0 w
theorem Drv.dsk {w:World}{d:Nat}{S:Nat->Prop}{D:DM}(L:Drv w d S D):Y5 w w d S D:=⟨L.mono λ_ _ h=>.inl h,Turn.refl _ _⟩
theorem Y5.below {w0 w w':World}{d:Nat}{S:Nat->Prop}{D:DM}(L:Y5 w0 w d S D)(hb:Below w.1.size w w'):Y5 w0 w' d S D:=⟨L.Vh.below hb,L.turn.trans (Uk hb) λ_ e=>.inl e⟩
theorem Rw {u w:World}{d:Nat}{S:Nat->Prop}{D:DM}(L:Y5 u w d S D){m:Nat}(g:D.Y4 m)(hm:m<=900000)(s:Nat)(z:Int)(q:z=(s:Int))(A:Option Addr)(n c:Nat)(x:List UInt8)(h:Sl w A n c x) :
  Calls Tryz.prog 130 #[.pointer (some ⟨d,0,none⟩),.int .i64 z,.slice A n c] w λe w'=>e=.returned (.int .i64 (D.says (.w s x)))/\Y5 u w' d S (D.does (.w s x)):=by
 subst q;refine (write_any L.Vh (s:Int) A n c x h (by have:=g.steps;omega) λk=>by have:=g.rows k;omega).mono ?_;rintro e w' ⟨rfl,R,T⟩;have q:=L.turn.size;exact⟨rfl,R.mono λk _ f=>f.elim id λh=>.inr (by omega),L.turn.trans T λk f=>f⟩
theorem Qar {g w:World}{d:Nat}{S:Nat->Prop}{D:DM}(L:Y5 g w d S D){m:Nat}(f:D.Y4 m)(hm:m<=900000) :
  Calls Tryz.prog 135 #[.pointer (some ⟨d,0,none⟩)] w λe w'=>e=.returned (.int .i64 (D.says .fl))/\Y5 g w' d S (D.does .fl):=by
 refine (flush_any L.Vh (by have:=f.steps;omega) λk=>by have:=f.rows k;omega).mono ?_;rintro e w' ⟨rfl,R,T⟩;exact⟨rfl,R,L.turn.trans T λk q=>q⟩
def DM.Qd4 (D:DM)(l:List Stp):Bool:=decide (D.Jo l=0)
theorem Qsc {w:World}{d:Nat}{S:Nat->Prop}{D:DM}(L:Drv w d S D){m:Nat}(ht:D.Y4 m)(hm:m<=800000) :
  Calls Tryz.prog 88 #[.pointer (some ⟨d,0,none⟩)] w λe w'=>e=.returned (.bool (D.Qd4 (X4 D.n)))/\Y5 w w' d S (D.Qn (X4 D.n)):=by
 have L0:=L.dsk;have hA:X4 D.n=[.w 0 q0n,.w 1 q0n]++[.fl]:=rfl;have hw:∀j,j<2->([.w 0 q0n,.w 1 q0n]:List Stp).take (j+1)=([.w 0 q0n,.w 1 q0n]:List Stp).take j++[.w j q0n]:=λj hj=>by
  rcases (show j=0\/j=1 by omega) with e|e<;>subst e<;>rfl
 obtain⟨q,H⟩:∃W:List Stp,[.w 0 q0n,.w 1 q0n]=W:=⟨_,rfl⟩;rw[H] at hA hw;have R:q.length=2:=by rw[<-H];rfl
 have X:=Lib.hid hA;have HW:=Lib.hid hw;have HL:=Lib.hid R;clear hA hw H R;go_enter Tryz.func88,Tryz.ntmps88
 go_wp2_with fail
 go_loopw [3,4] (λ_ i wr=>∃j:Nat,j<=2/\i=.int .i64 (j:Int)/\D.Jo (q.take j)=0/\Y5 w wr d S (D.Qn (q.take j))) (λ_ i _=>2-(intOf i).toNat)
 case atStart=>exact⟨0,by omega,rfl,rfl,L0⟩
 case round=>
  clear L0;obtain⟨j,hj,rfl,hE,V⟩:=hrel;have B:=Qdf (q.take j) ht;have a6:(q.take j).length<=2:=by rw[List.length_take];omega
  obtain⟨F,G⟩:∃F,D.Qn (q.take j)=F:=⟨_,rfl⟩;rw[G] at V B;have z:=Lib.hid G;have U:=Lib.hid hE;clear G hE;by_cases a2:j<2
  ·have e3:(j:Int)<2:=by omega
   have J:=Lib.hid (HW.out j a2);have O:=Lib.hid (show D.Jo (q.take (j+1))=F.says (.w j q0n) by rw[J.out,Qgv,if_pos U.out,z.out]);have M:=Lib.hid (show D.Qn (q.take (j+1))=F.does (.w j q0n) by rw[J.out,Qgu,if_pos U.out,z.out]);obtain⟨E,Q⟩:∃E,F.says (.w j q0n)=E:=⟨_,rfl⟩;have A:=Lib.hid Q;clear Q;by_cases h0:E=0
   ·have nb:(E != 0)=false:=by simpa using h0
    have H0:=Lib.hid h0;clear h0;go_wp2_with (first
     |(at_make;refine Qd1 _ T22 rfl _ _ rfl _ _ 256 rfl rfl (by omega) ?_;intro w3 y I;have Y:=V.below I)
     |(go_at_call 130;refine (Rw Y B (by omega) j _ rfl _ 256 256 q0n y.sl).mono ?_;rw[A.out];rintro e w4 ⟨rfl,K⟩)
     |fail)
    exact⟨⟨j+1,by omega,by go_num,O.out.trans (A.out.trans H0.out),by rw[M.out];exact K⟩,by simp[intOf];omega⟩
   ·have nb:(E != 0)=true:=by simpa using h0
    have g:D.Jo (q.take (j+1))≠0:=λh=>h0 (A.out.symm.trans (O.out.symm.trans h))
    have u:X4 D.n=q.take (j+1)++(q.drop (j+1)++[.fl]):=by rw[X.out,<-List.append_assoc,List.take_append_drop]
    obtain⟨r1,r2⟩:=Qdb (l':=q.drop (j+1)++[.fl]) g;have Z:=Lib.hid (show D.Qd4 (X4 D.n)=false by unfold DM.Qd4;rw[u,r1];exact decide_eq_false g);have R2:=Lib.hid (show D.Qn (X4 D.n)=F.does (.w j q0n) by rw[u,r2,M.out]);clear u r1 r2 g h0;go_wp2_with (first
     |(at_make;refine Qd1 _ T22 rfl _ _ rfl _ _ 256 rfl rfl (by omega) ?_;intro w3 y I;have Y:=V.below I)
     |(go_at_call 130;refine (Rw Y B (by omega) j _ rfl _ 256 256 q0n y.sl).mono ?_;rw[A.out];rintro e w4 ⟨rfl,K⟩)
     |fail)
    go_ret;exact⟨by rw[Z.out];rfl,by rw[R2.out];exact K⟩
  ·have a1:j=2:=by omega
   subst a1;have f:q.take 2=q:=List.take_of_length_le (by rw[HL.out];exact Nat.le_refl _);have Z:=Lib.hid (show D.Qd4 (X4 D.n)=decide (F.says .fl=0) by unfold DM.Qd4;rw[X.out,Qgv,<-f,if_pos U.out,z.out]);have R2:=Lib.hid (show D.Qn (X4 D.n)=F.does .fl by rw[X.out,Qgu,<-f,if_pos U.out,z.out]);clear f;go_wp2_with (first
    |(go_at_call 135;refine (Qar V B (by omega)).mono ?_;rintro e w4 ⟨rfl,K⟩)
    |fail)
   go_ret;exact⟨by rw[Z.out];rfl,by rw[R2.out];exact K⟩
theorem Qna {l:List UInt8}{slot:Int}(h:Xw l slot=true):(V5 l slot).may=true:=by
 rw[(Qnb h).1];unfold Xw at h;rw[Bool.and_eq_true,Bool.and_eq_true] at h;have:=h.2.1;unfold X8 at this;rw[Bool.and_eq_true] at this;exact this.1
theorem Ze6 {a b:List UInt8}(h:snE a b=0):(snS a b).may=true:=by
 by_cases h1:Xw a 0=false/\Xw b 1=false
 ·rw[(Zf1 h1.1 h1.2).2.2] at h
  cases h
 ·by_cases h2:(V5 a 0).gen<(V5 b 1).gen
  ·rw[(Ze5 h1 h2).1]
   cases f:Xw b 1
   ·cases e:Xw a 0
    ·exact absurd ⟨e,f⟩ h1
    ·have g:=(Dp (Qna e)).1.1;rw[(Kz f).1] at h2;have:Sp.zero.gen=0:=rfl;omega
   ·exact Qna f
  ·rw[(Ze4 h1 h2).1]
   cases e:Xw a 0
   ·cases f:Xw b 1
    ·exact absurd ⟨e,f⟩ h1
    ·have g:=(Dp (Qna f)).1.1;rw[(Kz e).1] at h2;have:Sp.zero.gen=0:=rfl;omega
   ·exact Qna e
theorem Qpg {S:Sp}(h:S.may=true):S.fine:=λk e=>by
 have:=Dt h k e;unfold maxLen;omega
theorem Qzf {n:Nat}{f:List (List UInt8)}(h:Oj (n:Int) f=0):(32<=n/\n<=2048)/\f.length=Qi n/\∀i,i<Qi n->Qbb n (2+2*Qi n) i (nth f i):=by
 unfold Oj at h;split at h
 ·cases h
 ·rename_i h1;have h1:=Decidable.of_not_not h1;rw[Int.toNat_natCast] at h;split at h
  ·cases h
  ·rename_i h2;refine⟨by omega,?_,?_⟩
   ·exact Classical.byContradiction λe=>h2 (.inl e)
   ·exact Classical.byContradiction λe=>h2 (.inr e)
theorem Qmw (n:Nat)(e:List (List UInt8)):(Qcp n e).n=n:=Qe3 _ _ _
theorem Zer {n:Nat}{f:List (List UInt8)}(h:Oj (n:Int) f=0):(Qcp n f).res:=by
 obtain⟨h1,h2,y⟩:=Qzf h;intro a u q;rw[Qmw] at u;have A:a<2+2*Qi n:=by unfold Ct.first at q;rw[Qmw] at q;exact q
 have e:nm (Qcp n f).now a=nm (Sz n f (Qi n)).now a:=rfl;rw[e,Qga n f (Qi n) a u];split
 ·rename_i B;have hi:a / 118<Qi n:=by omega
  have g:=(y _ hi).2 (a % 118) (Nat.mod_lt _ (by omega));unfold Sj at g;have g:=of_decide_eq_false g;exact Classical.byContradiction λz=>g ⟨z,.inl (by omega)⟩
 ·rfl
