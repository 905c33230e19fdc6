/- The code's pool, plain facts: new blocks as they are kept (of generation 0), and dated -/
import Derived.Test.YthkfkhejjmhomaaGreatDoorDb21
import Derived.Test.YthkfkhejjmhomaaGreatDoorDb23
namespace Go.Proofs.YthkfkhejjmhomaaGreatDoor
open Go Go.RowKit Go.Proofs
set_option maxHeartbeats 8000000
set_option maxRecDepth 100000
def Lj (g:Int):Prop:=0<=g/\g<=1099511627775
theorem qx9 {g:Int}(h:Aj g):Lj g:=⟨Int.le_trans (by omega) h.1,h.2⟩
theorem q2l:Lj 0:=⟨by omega,by omega⟩
def Bk.hd (b:Bk)(a:Nat)(g:Int):Hd:=match b with
 |.node N=>N.head (a:Int) g
 |.bytes k l=>Qbz k a l.length g
def Bk.body (b:Bk):List UInt8:=match b with
 |.node N=>N.body
 |.bytes _ l=>l
structure Bk.good (b:Bk):Prop where
 hd:∀(a:Nat) (g:Int),a<=2047->Lj g->(b.hd a g).ok=true
 body:b.body.length<=236
 out:∀(a:Nat) (g:Int),a<=2047->Lj g->b.out a g=Zn (b.hd a g) b.body
theorem Bk.good.len {b:Bk}(h:b.good){a:Nat}{g:Int}(ha:a<=2047)(hg:Lj g):(b.out a g).length=256:=by
 rw[h.out a g ha hg];exact q95 _ _ h.body
theorem Bk.good.fine {b:Bk}(h:b.good):b.fine:=λ_ _ e f=>h.len e (qx9 f)
theorem Bk.good.opens {b:Bk}(h:b.good){a:Nat}{g:Int}(ha:a<=2047)(hg:Lj g):Yk (b.out a g)=b.hd a g/\Un (b.out a g)=b.body++List.replicate (236-b.body.length) 0/\Lp (b.out a g)=0:=by
 rw[h.out a g ha hg];exact q6a _ _ (h.hd a g ha hg) h.body
def Ry (k:Int):Option Nat:=if k=5 then some 128 else if k=6 then some 236 else none
theorem qlv {k:Int}{m:Nat}(h:Ry k=some m):(k=5\/k=6)/\m<=236:=by
 unfold Ry at h;split at h
 ·cases h;exact⟨.inl (by assumption),by omega⟩
 ·split at h
  ·cases h;exact⟨.inr (by assumption),by omega⟩
  ·cases h
def Pl.live (P:Pl)(a:Nat):Option Bk:=if P.C.get (a:Int)=0 then none else P.L a
structure DM.Y0 (D:DM)(m:Nat):Prop where
 steps:D.steps<=m
 rows:∀s,(D.Zm s).length<=m
theorem DM.Y0.mono {D:DM}{m m':Nat}(h:D.Y0 m)(hm:m<=m'):D.Y0 m':=⟨Nat.le_trans h.steps hm,λs=>Nat.le_trans (h.rows s) hm⟩
theorem qjc (n:Nat):(DM.mk0 n).Y0 0:=⟨Nat.le_refl _,λ_=>Nat.le_refl _⟩
theorem q4y {D:DM}{m:Nat}(h:D.Y0 m):D.stepD.Y0 (m+1):=by
 refine⟨?_,λs=>Nat.le_trans (h.rows s) (by omega)⟩;have:=h.steps;show (if D.stop then D.steps else D.steps+1)<=m+1;split<;>omega
theorem qlw {D:DM}{m:Nat}(h:D.Y0 m)(s:Int)(x:List UInt8):(D.Yu s x).Y0 (m+1):=by
 unfold DM.Yu;split
 ·exact h.mono (by omega)
 ·split
  ·exact q4y h
  ·refine⟨(q4y h).steps,λt=>?_⟩;show (upd D.Zm s.toNat (D.Zm s.toNat++[x]) t).length<=m+1;unfold upd;split
   ·have:=h.rows s.toNat;rw[List.length_append];simp;omega
   ·exact Nat.le_trans (h.rows t) (by omega)
theorem qlx {D:DM}{m:Nat}(h:D.Y0 m):D.Y9.Y0 (m+1):=by
 unfold DM.Y9;split
 ·exact q4y h
 ·exact⟨(q4y h).steps,λ_=>Nat.zero_le _⟩
theorem q6h {D:DM}{m:Nat}(h:D.Y0 m)(a:Stp):(D.does a).Y0 (m+1):=by
 cases a with
 |w s x=>exact qlw h s x
 |fl=>exact qlx h
theorem q6i:∀(l:List Stp) {D:DM} {m:Nat},D.Y0 m->(D.Qz l).Y0 (m+l.length)
 |[],_,_,h=>h
 |a::l,D,m,h=>by
  show (if D.says a=0 then (D.does a).Qz l else D.does a).Y0 (m+(l.length+1));split
  ·exact (q6i l (q6h h a)).mono (by omega)
  ·exact (q6h h a).mono (by omega)
theorem qw0 (D:DM)(a:Stp):(D.does a).n=D.n:=by
 cases a with
 |w s x=>show (D.Yu s x).n=D.n;unfold DM.Yu;split;rfl;split<;>rfl
 |fl=>show D.Y9.n=D.n;unfold DM.Y9;split<;>rfl
theorem qxa:∀(l:List Stp) (D:DM),(D.Qz l).n=D.n
 |[],_=>rfl
 |a::l,D=>by
  show (if D.says a=0 then (D.does a).Qz l else D.does a).n=D.n;split
  ·rw[qxa l,qw0]
  ·exact qw0 D a
theorem q9w (l:List Stp)(a:Stp)(D:DM):D.Jh (l++[a])=if D.Jh l=0 then (D.Qz l).says a else D.Jh l:=by
 rw[q3p];split
 ·show (if (D.Qz l).says a=0 then (0:Int) else (D.Qz l).says a)=_;split
  ·rename_i h;exact h.symm
  ·rfl
 ·rfl
theorem q9x (l:List Stp)(a:Stp)(D:DM):D.Qz (l++[a])=if D.Jh l=0 then (D.Qz l).does a else D.Qz l:=by
 rw[q3q];split
 ·show (if (D.Qz l).says a=0 then (D.Qz l).does a else (D.Qz l).does a)=_;split<;>rfl
 ·rfl
theorem q5t {l l':List Stp}{D:DM}(h:D.Jh l≠0):D.Jh (l++l')=D.Jh l/\D.Qz (l++l')=D.Qz l:=by
 rw[q3p,q3q,if_neg h,if_neg h];exact⟨rfl,rfl⟩
section
open Go.ChangeMaps (setBlock)
structure PH (cur:Array Value)(d m:Nat)(S:Sp):Prop where
 size:cur.size=41
 disk:cur[0]?=some (.pointer (some ⟨d,0,none⟩))
 sup:∀(j:Nat) x,S.vs[j]?=some x->cur[1+j]?=some x
 fresh:cur[40]?=some (.map (some m))
structure PL (w:World)(p d m:Nat)(cur:Array Value)(l:List MapEntry)(clock:Nat)(v:Nat->Value)(Sc S T:Nat->Prop)(P:Pl):Prop where
 me:w.heap[p]?=some (.cells cur 125 (0,0))
 ph:PH cur d m P.S
 ct:Yj w p 36 Sc P.C
 map:w.heap[m]?=some (.map l.toArray clock)
 ents:U1 l clock
 look:∀a:Nat,Zf a l=(P.live a).map λ_=>v a
 keys:∀e∈l,∃a:Nat,a<P.C.n/\kI e=a
 row:∀a b,P.live a=some b->∃g c,v a=.slice (some ⟨g,0,none⟩) 256 c/\Sl w (some ⟨g,0,none⟩) 256 c (b.out a 0)/\¬T g
 good:∀a b,P.L a=some b->b.good
 Yn:S p/\S m/\(∀k,Sc k->S k)
 ne:∀k,Sc k->k≠p/\k≠m
 sub:∀k,S k->T k
 ok:P.ok
 D6:P.S.fine
def Pool (w:World)(p d:Nat)(S T:Nat->Prop)(P:Pl):Prop:=∃m cur l clock v Sc,PL w p d m cur l clock v Sc S T P
section
variable {w w':World}{p d m clock:Nat}{cur:Array Value}{l:List MapEntry}{v:Nat->Value}{Sc S T:Nat->Prop}{P:Pl}
theorem PL.p_m (L:PL w p d m cur l clock v Sc S T P):p≠m:=λe=>by
 have h:=L.me;rw[e,L.map] at h;cases h
theorem PL.F8 (L:PL w p d m cur l clock v Sc S T P):p<w.1.size:=Kw L.me
theorem PL.mlt (L:PL w p d m cur l clock v Sc S T P):m<w.1.size:=Kw L.map
theorem PL.keep (L:PL w p d m cur l clock v Sc S T P)(hk:∀k,k<w.1.size->S k\/¬T k->w'.1[k]?=w.1[k]?)(hz:w.1.size<=w'.1.size):PL w' p d m cur l clock v Sc S T P:=by
 have B:=hk p L.F8 (.inl L.Yn.1);have F:=hk m L.mlt (.inl L.Yn.2.1);refine⟨B.trans L.me,L.ph,L.ct.keep B λk y A=>hk k y (.inl (L.Yn.2.2 k A)),F.trans L.map,L.ents,L.look,L.keys,λa b h=>?_,L.good,L.Yn,L.ne,L.sub,L.ok,L.D6⟩;obtain⟨g,c,e,A,D⟩:=L.row a b h;refine⟨g,c,e,?_,D⟩;exact stay_slice A hz λf=>hk g f (.inr D)
 where
 stay_slice {w w':World} {g n c:Nat} {x:List UInt8} (h:Sl w (some ⟨g,0,none⟩) n c x) (hz:w.1.size<=w'.1.size) (f:g<w.1.size->w'.1[g]?=w.1[g]?):Sl w' (some ⟨g,0,none⟩) n c x:=
  ⟨h.1,h.2.1,h.2.2.1,λj u H=>by
   obtain⟨I,e,E,G⟩:=h.2.2.2 j u H;injection e with e;subst e;exact⟨_,rfl,Nat.lt_of_lt_of_le E hz,(World.cell?_of_block (a:=(⟨g,0,none⟩:Addr).add j) (by rw[Ls];exact f E)).trans G⟩⟩
theorem PL.other (L:PL w p d m cur l clock v Sc S T P){S':Nat->Prop}(t:Turn S' w w')(hT:∀k,S' k->T k)(hS:∀k,S' k->¬S k):PL w' p d m cur l clock v Sc S T P:=
 L.keep (λk f h=>t.block k f λe=>h.elim (hS k e) λh2=>h2 (hT k e)) t.size
theorem PL.below (L:PL w p d m cur l clock v Sc S T P)(hb:Below w.1.size w w'):PL w' p d m cur l clock v Sc S T P:=L.keep (λk e _=>hb.block k e) hb.size
theorem PL.mono {S' T':Nat->Prop}(L:PL w p d m cur l clock v Sc S T P)(hS:∀k,k<w.1.size->S k->S' k)(hT:∀k,k<w.1.size->T' k->T k)(hST:∀k,S' k->T' k):PL w p d m cur l clock v (λk=>Sc k/\k<w.1.size) S' T' P:=
 ⟨L.me,L.ph,L.ct.shrink,L.map,L.ents,L.look,L.keys,λa b h=>by
  obtain⟨g,c,e,A,D⟩:=L.row a b h;have y:g<w.1.size:=by
   have h1:=A.len;obtain⟨E,u,B,_⟩:=A.2.2.2 0 (bv ((b.out a 0).getD 0 0)) (by rw[List.getElem?_map,List.getD_eq_getElem?_getD,List.getElem?_eq_getElem (by omega)];rfl);injection u with u;subst u;exact B
  exact⟨g,c,e,A,λh=>D (hT g y h)⟩,L.good,⟨hS p L.F8 L.Yn.1,hS m L.mlt L.Yn.2.1,λk f=>hS k f.2 (L.Yn.2.2 k f.1)⟩,λk f=>L.ne k f.1,hST,L.ok,L.D6⟩
theorem PL.c0 (L:PL w p d m cur l clock v Sc S T P):w.cell? ⟨p,0,none⟩=some (.pointer (some ⟨d,0,none⟩)):=Fb L.me L.ph.disk
theorem PL.c40 (L:PL w p d m cur l clock v Sc S T P):w.cell? ⟨p,40,none⟩=some (.map (some m)):=Fb L.me L.ph.fresh
theorem PL.Qbi (L:PL w p d m cur l clock v Sc S T P){C':Ct}(t:Turn Sc w w')(H:Yj w' p 36 Sc C')(hn:C'.n=P.C.n)(hlive:∀a:Nat,C'.get (a:Int)=0↔P.C.get (a:Int)=0)(hok:Pl.ok ⟨P.S,C',P.L⟩):PL w' p d m cur l clock v Sc S T ⟨P.S,C',P.L⟩:=by
 have B:=t.block p L.F8 λh=>(L.ne p h).1 rfl
 have hm:=t.block m L.mlt λh=>(L.ne m h).2 rfl
 have u:∀a,Pl.live ⟨P.S,C',P.L⟩ a=P.live a:=λa=>by
  unfold Pl.live;by_cases h:P.C.get (a:Int)=0
  ·rw[if_pos h,if_pos ((hlive a).2 h)]
  ·rw[if_neg h,if_neg λh2=>h ((hlive a).1 h2)]
 refine⟨B.trans L.me,L.ph,H,hm.trans L.map,L.ents,λa=>by rw[u a];exact L.look a,λe y=>by rw[hn];exact L.keys e y,λa b h=>?_,L.good,L.Yn,L.ne,L.sub,hok,L.D6⟩;rw[u a] at h;obtain⟨g,c,e,D,f⟩:=L.row a b h;exact⟨g,c,e,PL.keep.stay_slice D t.size λA=>t.block g A λh=>f (L.sub g (L.Yn.2.2 g h)),f⟩
end
theorem Pool.below {w w':World}{p d:Nat}{S T:Nat->Prop}{P:Pl}(h:Pool w p d S T P)(hb:Below w.1.size w w'):Pool w' p d S T P:=by
 obtain⟨m,cur,l,clock,v,Sc,L⟩:=h;exact⟨m,cur,l,clock,v,Sc,L.below hb⟩
theorem Pool.other {w w':World}{p d:Nat}{S T:Nat->Prop}{P:Pl}(h:Pool w p d S T P){S':Nat->Prop}(t:Turn S' w w')(hT:∀k,S' k->T k)(hS:∀k,S' k->¬S k):Pool w' p d S T P:=by
 obtain⟨m,cur,l,clock,v,Sc,L⟩:=h;exact⟨m,cur,l,clock,v,Sc,L.other t hT hS⟩
theorem Pool.mono {w:World}{p d:Nat}{S T S' T':Nat->Prop}{P:Pl}(h:Pool w p d S T P)(hS:∀k,k<w.1.size->S k->S' k)(hT:∀k,k<w.1.size->T' k->T k)(hST:∀k,S' k->T' k):Pool w p d S' T' P:=by
 obtain⟨m,cur,l,clock,v,Sc,L⟩:=h;exact⟨m,cur,l,clock,v,_,L.mono hS hT hST⟩
theorem Pool.ok {w:World}{p d:Nat}{S T:Nat->Prop}{P:Pl}(h:Pool w p d S T P):P.ok:=by
 obtain⟨m,cur,l,clock,v,Sc,L⟩:=h;exact L.ok
theorem Pool.lt {w:World}{p d:Nat}{S T:Nat->Prop}{P:Pl}(h:Pool w p d S T P):p<w.1.size:=by
 obtain⟨m,cur,l,clock,v,Sc,L⟩:=h;exact L.F8
end
theorem qfa (S:Sp)(n:Nat)(I:S.Qa=(n:Int))(hn:n<=2048)(G:0<=S.gen/\S.gen<=1099511627776)(w:World) :
  Calls Tryz.prog 132 #[.agg S.vs.toArray] w λe w'=>e=.returned (.tuple #[.int .i64 (Qv n S.gen:Int),.int .i64 (Qh n:Int)])/\Below w.1.size w w':=by
 have B:=SB.new w S 120;have E:Below w.1.size w (w.alloc (.cells S.vs.toArray 120)):=Qk;have M:=B.c1;have K:=B.c0;rw[I] at M;obtain⟨g,y⟩:∃g,S.gen=g:=⟨_,rfl⟩;rw[y] at K G ⊢;obtain⟨W,X⟩:=G;obtain⟨f,hm⟩:∃m,Qh n=m:=⟨_,rfl⟩;have U:f<=18:=by unfold Qh at hm;omega
 obtain⟨t,J⟩:∃t,(g % 2).toNat=t:=⟨_,rfl⟩;have Y:t<2:=by omega
 have Z:g.tmod 2=(t:Int):=by rw[Int.tmod_eq_emod_of_nonneg (by omega)];omega
 obtain⟨u,A⟩:∃u,f*t=u:=⟨_,rfl⟩;have a1:u<=18:=by rw[<-A];rcases (show t=0\/t=1 by omega) with e|e<;>rw[e]<;>omega
 have H:(t:Int)*(f:Int)=(u:Int):=by rw[<-A,Int.mul_comm];exact (Int.natCast_mul f t).symm
 obtain⟨a,F⟩:∃a,2+u=a:=⟨_,rfl⟩;have Q:(2:Int)+(u:Int)=(a:Int):=by omega
 have R:a<=20:=by omega
 have D:=Lib.hid (show Qv n g=a by unfold Qv;rw[hm,J,A,F]);have O:=Lib.hid hm;rw[hm];clear hm J A F I y B;go_enter Tryz.func132,Tryz.ntmps132
 go_wp2_with fail
 generalize w.alloc (.cells S.vs.toArray 120)=w1 at E K M ⊢;refine (qcc (n:Int) n rfl (by omega) f O.out w1).mono ?_;rintro e w2 ⟨rfl,rfl⟩;go_wp2;go_ret2;rw[D.out];exact⟨rfl,E⟩
theorem q5u {u:Array Oper}{f:List Oper}{o:Oper}{a:Act}{w:World}{Q:Exit->Act->World->Prop}(F:o.guard=none)(x y:Operand)(A:o.op=Op.store 198 x y)
  (b:Nat) (D:a.eval x=.pointer (some ⟨b,0,none⟩)) (h h0:Hd) (G:a.eval y=h.v) (H:HB w b h0) (J:b<w.1.size)
  (E:∀w',HB w' b h->(∀B,B<=b->Below B w w')->Turn (λk=>k=b) w w'->wpList Tryz.prog u Q f (a.put o.dst undef) w'):wpList Tryz.prog u Q (o::f) a w:=by
 refine wpList_store_mid F _ x y A b 0 h.vs.toArray D G H.there (by kernel_rfl) (by simp[Hd.vs,Value.oneCell']) ?_;have T:=Vb (S:=λk=>k=b) rfl h.vs 0 w;refine E _ ?_ (λB I=>T.below (λx D=>by omega) (by omega)) T;obtain⟨t,H⟩:=H;have e:=q0i b t h.vs 0 w h0.vs H (by show 0+5<=5;omega);rw[q2j h0.vs h.vs rfl] at e;exact⟨t,e⟩
theorem q6j (a g:Int)(w:World):Calls Tryz.prog 133 #[.int .i64 a,.int .i64 g] w λe w'=>e=.returned (.agg #[.int .i64 2,.int .i64 a,.int .i64 0,.int .i64 0,.int .i64 g])/\Below w.1.size w w':=by
 have y:=HB.zero w 198;have A:Below w.1.size w (w.alloc (.cells #[.int .i64 0,.int .i64 0,.int .i64 0,.int .i64 0,.int .i64 0] 198)):=Qk;go_enter Tryz.func133,Tryz.ntmps133
 go_wp2_with (first
  |(refine Ph rfl _ _ rfl w.1.size rfl ⟨2,a,0,0,g⟩ _ rfl y (by simp) ?_;intro D u f B)
  |fail)
 refine bodyPost_ret (q2e Tryz.results133 rfl (q81 u)) rfl ?_;exact⟨rfl,A.trans (f _ (Nat.le_refl _))⟩
theorem Wu.below {w w':World}{d:Nat}{S:Nat->Prop}{D:DM}(L:Wu w d S D)(hb:Below w.1.size w w'):Wu w' d S D:=L.keep λk e _=>hb.block k e
theorem Wu.Qa {w:World}{d:Nat}{S:Nat->Prop}{D:DM}(L:Wu w d S D):Go.Proofs.YthkfkhejjmhomaaGreatDoor.Qa D.n:=by
 obtain⟨e,f,l,clock,v,L⟩:=L;exact L.n32
theorem Wu.lt {w:World}{d:Nat}{S:Nat->Prop}{D:DM}(L:Wu w d S D):d<w.1.size:=by
 obtain⟨e,f,l,clock,v,L⟩:=L;exact Kw L.me
theorem Wu.at_ {w:World}{d:Nat}{S:Nat->Prop}{D:DM}(L:Wu w d S D):S d:=by
 obtain⟨e,f,l,clock,v,L⟩:=L;exact L.Yn.1
structure Ie (w0 w:World)(d:Nat)(S:Nat->Prop)(D:DM):Prop where
 Az:Wu w d (λk=>S k\/w0.heap.size<=k) D
 turn:Turn S w0 w
theorem Wu.dsk {w:World}{d:Nat}{S:Nat->Prop}{D:DM}(L:Wu w d S D):Ie w w d S D:=⟨L.mono λ_ _ h=>.inl h,Turn.refl _ _⟩
theorem Ie.below {w0 w w':World}{d:Nat}{S:Nat->Prop}{D:DM}(L:Ie w0 w d S D)(hb:Below w.1.size w w'):Ie w0 w' d S D:=⟨L.Az.below hb,L.turn.trans (Qx hb) λ_ e=>.inl e⟩
theorem q2f {B w:World}{d:Nat}{S:Nat->Prop}{D:DM}(L:Ie B w d S D){m:Nat}(u:D.Y0 m)(hm:m<=900000)(s:Nat)(z:Int)(y:z=(s:Int))(A:Option Addr)(n c:Nat)(x:List UInt8)(h:Sl w A n c x) :
  Calls Tryz.prog 130 #[.pointer (some ⟨d,0,none⟩),.int .i64 z,.slice A n c] w λe w'=>e=.returned (.int .i64 (D.says (.w s x)))/\Ie B w' d S (D.does (.w s x)):=by
 subst y;refine (qns L.Az (s:Int) A n c x h (by have:=u.steps;omega) λk=>by have:=u.rows k;omega).mono ?_;rintro e w' ⟨rfl,R,T⟩;have y:=L.turn.size;exact⟨rfl,R.mono λk _ f=>f.elim id λh=>.inr (by omega),L.turn.trans T λk f=>f⟩
theorem q37 {u w:World}{d:Nat}{S:Nat->Prop}{D:DM}(L:Ie u w d S D){m:Nat}(f:D.Y0 m)(hm:m<=900000) :
  Calls Tryz.prog 135 #[.pointer (some ⟨d,0,none⟩)] w λe w'=>e=.returned (.int .i64 (D.says .fl))/\Ie u w' d S (D.does .fl):=by
 refine (qo9 L.Az (by have:=f.steps;omega) λk=>by have:=f.rows k;omega).mono ?_;rintro e w' ⟨rfl,R,T⟩;exact⟨rfl,R,L.turn.trans T λk y=>y⟩
def DM.Ut (D:DM)(l:List Stp):Bool:=decide (D.Jh l=0)
theorem qly {w:World}{d:Nat}{S:Nat->Prop}{D:DM}(L:Wu w d S D){m:Nat}(ht:D.Y0 m)(hm:m<=800000) :
  Calls Tryz.prog 88 #[.pointer (some ⟨d,0,none⟩)] w λe w'=>e=.returned (.bool (D.Ut (Ky D.n)))/\Ie w w' d S (D.Qz (Ky D.n)):=by
 have L0:=L.dsk;have hA:Ky D.n=[.w 0 q0z,.w 1 q0z]++[.fl]:=rfl;have hw:∀j,j<2->([.w 0 q0z,.w 1 q0z]:List Stp).take (j+1)=([.w 0 q0z,.w 1 q0z]:List Stp).take j++[.w j q0z]:=λj hj=>by
  rcases (show j=0\/j=1 by omega) with e|e<;>subst e<;>rfl
 obtain⟨y,K⟩:∃W:List Stp,[.w 0 q0z,.w 1 q0z]=W:=⟨_,rfl⟩;rw[K] at hA hw;have Y:y.length=2:=by rw[<-K];rfl
 have HA:=Lib.hid hA;have HW:=Lib.hid hw;have HL:=Lib.hid Y;clear hA hw K Y;go_enter Tryz.func88,Tryz.ntmps88
 go_wp2_with fail
 go_loopw [3,4] (λ_ i wr=>∃j:Nat,j<=2/\i=.int .i64 (j:Int)/\D.Jh (y.take j)=0/\Ie w wr d S (D.Qz (y.take j))) (λ_ i _=>2-(intOf i).toNat)
 case atStart=>exact⟨0,by omega,rfl,rfl,L0⟩
 case round=>
  clear L0;obtain⟨j,hj,rfl,hE,L1⟩:=hrel;have H:=q6i (y.take j) ht;have a6:(y.take j).length<=2:=by rw[List.length_take];omega
  obtain⟨I,J⟩:∃I,D.Qz (y.take j)=I:=⟨_,rfl⟩;rw[J] at L1 H;have F:=Lib.hid J;have Z:=Lib.hid hE;clear J hE;by_cases a2:j<2
  ·have e3:(j:Int)<2:=by omega
   have O:=Lib.hid (HW.out j a2);have U:=Lib.hid (show D.Jh (y.take (j+1))=I.says (.w j q0z) by rw[O.out,q9w,if_pos Z.out,F.out]);have R:=Lib.hid (show D.Qz (y.take (j+1))=I.does (.w j q0z) by rw[O.out,q9x,if_pos Z.out,F.out]);obtain⟨E,X⟩:∃E,I.says (.w j q0z)=E:=⟨_,rfl⟩;have G:=Lib.hid X;clear X;by_cases h0:E=0
   ·have nb:(E != 0)=false:=by simpa using h0
    have H0:=Lib.hid h0;clear h0;go_wp2_with (first
     |(at_make;refine q6u _ Ig rfl _ _ rfl _ _ 256 rfl rfl (by omega) ?_;intro w3 B M;have L3:=L1.below M)
     |(go_at_call 130;refine (q2f L3 H (by omega) j _ rfl _ 256 256 q0z B.sl).mono ?_;rw[G.out];rintro e w4 ⟨rfl,Q⟩)
     |fail)
    exact⟨⟨j+1,by omega,by go_num,U.out.trans (G.out.trans H0.out),by rw[R.out];exact Q⟩,by simp[intOf];omega⟩
   ·have nb:(E != 0)=true:=by simpa using h0
    have u:D.Jh (y.take (j+1))≠0:=λh=>h0 (G.out.symm.trans (U.out.symm.trans h))
    have A:Ky D.n=y.take (j+1)++(y.drop (j+1)++[.fl]):=by rw[HA.out,<-List.append_assoc,List.take_append_drop]
    obtain⟨r1,r2⟩:=q5t (l':=y.drop (j+1)++[.fl]) u;have R1:=Lib.hid (show D.Ut (Ky D.n)=false by unfold DM.Ut;rw[A,r1];exact decide_eq_false u);have R2:=Lib.hid (show D.Qz (Ky D.n)=I.does (.w j q0z) by rw[A,r2,R.out]);clear A r1 r2 u h0;go_wp2_with (first
     |(at_make;refine q6u _ Ig rfl _ _ rfl _ _ 256 rfl rfl (by omega) ?_;intro w3 B M;have L3:=L1.below M)
     |(go_at_call 130;refine (q2f L3 H (by omega) j _ rfl _ 256 256 q0z B.sl).mono ?_;rw[G.out];rintro e w4 ⟨rfl,Q⟩)
     |fail)
    go_ret;exact⟨by rw[R1.out];rfl,by rw[R2.out];exact Q⟩
  ·have a1:j=2:=by omega
   subst a1;have f:y.take 2=y:=List.take_of_length_le (by rw[HL.out];exact Nat.le_refl _);have R1:=Lib.hid (show D.Ut (Ky D.n)=decide (I.says .fl=0) by unfold DM.Ut;rw[HA.out,q9w,<-f,if_pos Z.out,F.out]);have R2:=Lib.hid (show D.Qz (Ky D.n)=I.does .fl by rw[HA.out,q9x,<-f,if_pos Z.out,F.out]);clear f;go_wp2_with (first
    |(go_at_call 135;refine (q37 L1 H (by omega)).mono ?_;rintro e w4 ⟨rfl,Q⟩)
    |fail)
   go_ret;exact⟨by rw[R1.out];rfl,by rw[R2.out];exact Q⟩
section
theorem Tab.turned {w w':World}{S:Nat->Prop}(h:Tab w)(T:Turn S w w')(hS:¬S 1):Tab w':=
 ⟨Nat.lt_of_lt_of_le h.1 T.size,λk e=>(World.cell?_of_block (a:=⟨1,k,none⟩) (T.block _ h.1 hS)).trans (h.2 k e)⟩
theorem Wu.tight {w:World}{d:Nat}{S:Nat->Prop}{D:DM}(L:Wu w d S D):Wu w d (λk=>S k/\k<w.1.size) D:=L.mono λ_ h1 h2=>⟨h2,h1⟩
theorem Ie.from {w0 w1 w:World}{d:Nat}{S:Nat->Prop}{D:DM}(L:Ie w1 w d (λk=>S k/\k<w0.1.size) D)(b:Below w0.1.size w0 w1):Ie w0 w d S D:=
 ⟨L.Az.mono λk _ e=>e.elim (λh=>.inl h.1) λh=>.inr (by have:=b.size;omega),(Qx b |>.mono (S':=S) λ_ h=>h).trans L.turn λ_ e=>.inl e.1⟩
def Uu (C:Ct)(S:Sp):List Stp:=Ld (Fe (Qv C.n S.gen) (Kq C S.gen)) (S.gen % 2).toNat (swB S (S.gen % 2))
theorem q4z (D:DM)(a:Stp)(l:List Stp):D.Jh (a::l)=(if D.says a=0 then (D.does a).Jh l else D.says a)/\D.Qz (a::l)=(if D.says a=0 then (D.does a).Qz l else D.does a):=⟨rfl,rfl⟩
theorem qti {D:DM}{A:List Stp}(slot:Nat)(e:List UInt8)(h:D.Jh A=0):D.Jh (Ld A slot e)=(D.Qz A).Jh [.fl,.w slot e,.fl]/\D.Qz (Ld A slot e)=(D.Qz A).Qz [.fl,.w slot e,.fl]:=by
 unfold Ld;rw[q3p,q3q,if_pos h,if_pos h];exact⟨rfl,rfl⟩
theorem qow (D:DM)(a:Stp):D.Jh [a]=D.says a/\D.Qz [a]=D.does a:=by
 rw[(q4z D a []).1,(q4z D a []).2];constructor
 ·split
  ·rename_i h;exact h.symm
  ·rfl
 ·split<;>rfl
attribute [local go_sem ↓] q1n
theorem qhi {w:World}{d pc o:Nat}{S0 Sc:Nat->Prop}{D:DM}{C:Ct}(L:Wu w d S0 D)(H:Yj w pc o Sc C)(c9:∀k,S0 k->k≠pc/\¬Sc k)(hG:¬S0 1)(S:Sp)(a2:S.may=true)(Y:S.fine)(c8:S.Qa=(C.n:Int))(ht:Tab w){m:Nat}(g9:D.Y0 m)(hm:m<=800000) :
  Calls Tryz.prog 78 #[.pointer (some ⟨d,0,none⟩),.agg S.vs.toArray,.pointer (some ⟨pc,o,none⟩)] w λe w'=>e=.returned (.bool (D.Ut (Uu C S)))/\Ie w w' d S0 (D.Qz (Uu C S)):=by
 have d9:=H.ok.1;have a1:=(Tc a2).1;have hg:Aj S.gen:=⟨a1.1,a1.2.1⟩;obtain⟨g,u⟩:∃g,S.gen=g:=⟨_,rfl⟩;rw[u] at hg;obtain⟨ar,B⟩:∃m,Qh C.n=m:=⟨_,rfl⟩;have i4:ar<=18:=by unfold Qh at B;omega
 obtain⟨t,e1⟩:∃t,(g % 2).toNat=t:=⟨_,rfl⟩;have f:g % 2=(t:Int):=by have:=hg.1;omega
 have j8:t<2:=by omega
 have i6:g.tmod 2=(t:Int):=by rw[Int.tmod_eq_emod_of_nonneg (by have:=hg.1;omega)];exact f
 obtain⟨a,ha⟩:∃a,Qv C.n g=a:=⟨_,rfl⟩;have i8:a<=40:=by
  rw[<-ha];unfold Qv;rw[B,e1];rcases (show t=0\/t=1 by omega) with e|e<;>rw[e]<;>omega
 obtain⟨sb,e0⟩:∃x,swB S (t:Int)=x:=⟨_,rfl⟩;have a8:Yi S (t:Int)=true:=by unfold Yi;rw[a2,Bool.true_and];exact decide_eq_true ⟨by omega,by omega⟩
 have d1:=(qix a8).1;obtain⟨W,hW⟩:∃W,Fe (Qv C.n S.gen) (Kq C S.gen)=W:=⟨_,rfl⟩;have d0:Uu C S=Ld W t sb:=by unfold Uu;rw[hW,u,f,e0,<-f,e1]
 have f2:W.length=ar:=by rw[<-hW,qhd,q35,B]
 have f3:∀j,j<ar->W.take (j+1)=W.take j++[.w (a+j) (Zn (U5 C.n g j) (C.body (j:Int)))]:=λj hj=>by
  rw[<-hW,qt5 _ _ (by rw[q35,B];exact hj),qj8 _ _ (by rw[B];exact hj),u,ha]
 have a6:∀j,j<ar->Xn ⟨2,((a+j:Nat):Int),0,0,g⟩ (C.body (j:Int))=0/\Xy ⟨2,((a+j:Nat):Int),0,0,g⟩ (C.body (j:Int))=Zn (U5 C.n g j) (C.body (j:Int)):=λj hj=>by
  have g0:=qoi d9.1 d9.2 hg (i:=j) (by rw[B];exact hj);have f4:=Ct.Uf (C:=C) (i:=j) (by rw[B];exact hj);have g5:U5 C.n g j=⟨2,((a+j:Nat):Int),0,0,g⟩:=by unfold U5;rw[ha]
  rw[<-g5];unfold Xn Xy;rw[if_pos g0,if_pos g0,if_pos (by rw[f4];exact Nat.le_refl _),if_pos (by rw[f4];exact Nat.le_refl _)];exact⟨rfl,rfl⟩
 have hA:=qfa S C.n c8 d9.2 ⟨by rw[u];have:=hg.1;omega,by rw[u];have:=hg.2;omega⟩;rw[u,ha,B] at hA;have HA:=Lib.hid hA;have HS:=Lib.hid d0;have e6:=Lib.hid f2;have g4:=Lib.hid f3;have d5:=Lib.hid a6;have i7:=Lib.hid f;have e8:=Lib.hid e0;have f0:=Lib.hid d1;have i3:=Lib.hid a8;have M:=Lib.hid Y;have c7:=Lib.hid c9;have g3:=Lib.hid hG;have X1:=SB.new w S 120;have b1:Below w.1.size w (w.alloc (.cells S.vs.toArray 120)):=Qk;have O:=L.tight.below b1;have H1:=H.below b1;have t1:=ht.below b1 ht.1;have i9:=H.lt;have j9:=ht.1;clear hA d0 hW f2 f3 a6 a1 f e0 d1 a8 Y ha c8 c9 hG a2 e1 hg L ht H;have g1:=X1.ld;go_enter Tryz.func78,Tryz.ntmps78
 go_wp2_with fail
 generalize w.alloc (.cells S.vs.toArray 120)=w1 at b1 O H1 t1 X1 g1 ⊢;refine (HA.out w1).mono ?_;rintro e w2 ⟨rfl,b2⟩;have L2:=O.below b2;have H2:=H1.below b2;have t2:=t1.below b2 t1.1;have X2:=X1.below b2 X1.lt;have B2:=b1.trans (b2.mono b1.size);have i0:w.1.size<w2.1.size:=X2.lt;clear g1 O H1 t1 X1 b1 b2;have L0:=L2.dsk;have a7:∀wr,Turn (λk=>S0 k/\k<w.1.size) w2 wr->SB wr w.1.size S/\Yj wr pc o Sc C/\Tab wr:=λwr T=>
  ⟨X2.block (T.block _ i0 (λh=>by have:=h.2;omega)),H2.keep (T.block pc (by omega) λh=>(c7.out pc h.1).1 rfl) (λk hk hs=>T.block k hk λh=>(c7.out k h.1).2 hs),t2.turned T λh=>g3.out h.1⟩
 have e9:=Lib.hid a7;clear a7 X2 H2 t2 L2;go_wp2_with fail
 go_loopw [9,10,11,21] (λ_ _ _ i wr=>∃j:Nat,j<=ar/\i=.int .i64 (j:Int)/\D.Jh (W.take j)=0/\Ie w2 wr d (λk=>S0 k/\k<w.1.size) (D.Qz (W.take j))) (λ_ _ _ i _=>ar-(intOf i).toNat)
 case atStart=>exact⟨0,by omega,rfl,rfl,L0⟩
 case round=>
  clear L0;obtain⟨j,hj,rfl,hE,O⟩:=hrel;have K:=q6i (W.take j) g9;have i5:(W.take j).length<=18:=by rw[List.length_take,e6.out];omega
  obtain⟨D1,d7⟩:∃D1,D.Qz (W.take j)=D1:=⟨_,rfl⟩;rw[d7] at O K;have d2:=Lib.hid d7;have HE:=Lib.hid hE;obtain⟨X3,H3,t3⟩:=e9.out wr O.turn;clear d7 hE;by_cases g2:j<ar
  ·have e3:(j:Int)<(ar:Int):=by omega
   have e7:=Lib.hid (g4.out j g2);obtain⟨s1,s2⟩:=d5.out j g2;obtain⟨x,hx⟩:∃x,Zn (U5 C.n g j) (C.body (j:Int))=x:=⟨_,rfl⟩;rw[hx] at s2;obtain⟨s,hs⟩:∃s,a+j=s:=⟨_,rfl⟩;rw[hs] at s1 s2;have j0:(a:Int)+(j:Int)=(s:Int):=by omega
   have j7:s<=100:=by omega
   have I:=Lib.hid (show D.Jh (W.take (j+1))=D1.says (.w s x) by rw[e7.out,q9w,if_pos HE.out,d2.out,hx,hs]);have y:=Lib.hid (show D.Qz (W.take (j+1))=D1.does (.w s x) by rw[e7.out,q9x,if_pos HE.out,d2.out,hx,hs]);have S1:=Lib.hid s1;have S2:=Lib.hid s2;have q0:=X3.c0;rw[u] at q0;obtain⟨E,f1⟩:∃E,D1.says (.w s x)=E:=⟨_,rfl⟩;have b7:=Lib.hid f1;clear f1 hx hs s1 s2;by_cases h0:E=0
   ·have nb:(E != 0)=false:=by simpa using h0
    have H0:=Lib.hid h0;clear h0;go_wp2_with (first
     |(go_at_call 133;refine (q6j _ g wr).mono ?_;rintro e w4 ⟨rfl,Q⟩;have H4:=H3.below Q;have t4:=t3.below Q t3.1)
     |(go_at_call 134;refine (qew H4 (j:Int)).mono ?_;rintro e w5 ⟨V,n5,c5,rfl,s5,R,_⟩;have t5:=t4.below R t4.1)
     |(go_at_call 122;refine (q6v ⟨2,(s:Int),0,0,g⟩ V n5 c5 _ w5 s5 t5).mono ?_;rw[S1.out,S2.out];rintro e w6 ⟨A6,n6,c6,rfl,b3,g6,b6⟩;have L6:=O.below (Q.trans ((R.mono Q.size).trans (b6.mono (Nat.le_trans Q.size R.size)))))
     |(go_at_call 130;refine (q2f L6 K (by omega) s _ rfl A6 n6 c6 x b3.sl).mono ?_;rw[b7.out];rintro e w7 ⟨rfl,L7⟩)
     |fail)
    exact⟨⟨j+1,by omega,by go_num,I.out.trans (b7.out.trans H0.out),by rw[y.out];exact L7⟩,by simp[intOf];omega⟩
   ·have nb:(E != 0)=true:=by simpa using h0
    have J:D.Jh (W.take (j+1))≠0:=λh=>h0 (b7.out.symm.trans (I.out.symm.trans h))
    have X:Uu C S=W.take (j+1)++(W.drop (j+1)++.fl::[.w t sb,.fl]):=by rw[HS.out];unfold Ld;rw[<-List.append_assoc,List.take_append_drop]
    obtain⟨F,G⟩:=q5t (l':=W.drop (j+1)++.fl::[.w t sb,.fl]) J;have R1:=Lib.hid (show D.Ut (Uu C S)=false by unfold DM.Ut;rw[X,F];exact decide_eq_false J);have R2:=Lib.hid (show D.Qz (Uu C S)=D1.does (.w s x) by rw[X,G,y.out]);clear X F G J h0;go_wp2_with (first
     |(go_at_call 133;refine (q6j _ g wr).mono ?_;rintro e w4 ⟨rfl,Q⟩;have H4:=H3.below Q;have t4:=t3.below Q t3.1)
     |(go_at_call 134;refine (qew H4 (j:Int)).mono ?_;rintro e w5 ⟨V,n5,c5,rfl,s5,R,_⟩;have t5:=t4.below R t4.1)
     |(go_at_call 122;refine (q6v ⟨2,(s:Int),0,0,g⟩ V n5 c5 _ w5 s5 t5).mono ?_;rw[S1.out,S2.out];rintro e w6 ⟨A6,n6,c6,rfl,b3,g6,b6⟩;have L6:=O.below (Q.trans ((R.mono Q.size).trans (b6.mono (Nat.le_trans Q.size R.size)))))
     |(go_at_call 130;refine (q2f L6 K (by omega) s _ rfl A6 n6 c6 x b3.sl).mono ?_;rw[b7.out];rintro e w7 ⟨rfl,L7⟩)
     |fail)
    go_ret;exact⟨by rw[R1.out];rfl,by rw[R2.out];exact L7.from B2⟩
  ·have g7:j=ar:=by omega
   subst g7;have Z:W.take j=W:=List.take_of_length_le (by rw[e6.out];exact Nat.le_refl _);have d8:=HE.out;have d6:=d2.out;rw[Z] at d8 d6;obtain⟨F,G⟩:=qti (D:=D) (A:=W) t sb d8;rw[d6,<-HS.out] at F G;have e3:¬(j:Int)<(j:Int):=by omega
   have b9:=q6h K .fl;obtain⟨E1,I⟩:∃E,D1.says .fl=E:=⟨_,rfl⟩;obtain⟨D2,y⟩:∃E,D1.does .fl=E:=⟨_,rfl⟩;rw[y] at b9;rw[(q4z _ _ _).1,I,y] at F;rw[(q4z _ _ _).2,I,y] at G;have d4:=Lib.hid I;have d3:=Lib.hid y;clear I y d8 d6 Z;by_cases h1:E1=0
   ·have i1:(E1 != 0)=false:=by simpa using h1
    rw[if_pos h1] at F G;have f9:=q6h b9 (.w t sb);obtain⟨E2,b8⟩:∃E,D2.says (.w t sb)=E:=⟨_,rfl⟩;obtain⟨D3,U⟩:∃E,D2.does (.w t sb)=E:=⟨_,rfl⟩;rw[U] at f9;rw[(q4z _ _ _).1,b8,U] at F;rw[(q4z _ _ _).2,b8,U] at G;have e5:=Lib.hid b8;have e4:=Lib.hid U;clear b8 U h1;have q0:=X3.c0;rw[u] at q0;have f8:=Lib.hid (λ(w':World) (l':Ie w2 w' d (λk=>S0 k/\k<w.1.size) D2)=>e9.out w' l'.turn);by_cases h2:E2=0
    ·rw[if_pos h2,(qow _ _).1] at F;rw[if_pos h2,(qow _ _).2] at G;have i2:(E2==0)=true:=by simpa using h2
     have R1:=Lib.hid (show D.Ut (Uu C S)=decide (D3.says .fl=0) by unfold DM.Ut;rw[F]);have R2:=Lib.hid G;clear F G h2;go_wp2_with (first
      |(go_at_call 135;refine (q37 O K (by omega)).mono ?_;rw[d4.out,d3.out];rintro e w4 ⟨rfl,L4⟩;obtain⟨X4,H4,t4⟩:=f8.out w4 L4;have e2:=X4.c0;rw[u] at e2;have g8:=X4.ld)
      |(go_at_call 136;refine (q74 S (t:Int) M.out w4 t4).mono ?_;rw[f0.out,e8.out];rintro e w5 ⟨A5,n5,c5,rfl,b0,_,R⟩;have L5:=L4.below R)
      |(go_at_call 130;refine (q2f L5 b9 (by omega) t _ rfl A5 n5 c5 sb b0.sl).mono ?_;rw[e5.out,e4.out];rintro e w6 ⟨rfl,L6⟩)
      |(go_at_call 135;have hh:=L6;refine (q37 L6 f9 (by omega)).mono ?_;rintro e w7 ⟨rfl,L7⟩)
      |fail)
     go_ret;exact⟨by rw[R1.out];rfl,by rw[R2.out];exact L7.from B2⟩
    ·rw[if_neg h2] at F G;have i2:(E2==0)=false:=by simpa using h2
     have R1:=Lib.hid (show D.Ut (Uu C S)=false by unfold DM.Ut;rw[F];exact decide_eq_false h2);have R2:=Lib.hid G;clear F G h2;go_wp2_with (first
      |(go_at_call 135;refine (q37 O K (by omega)).mono ?_;rw[d4.out,d3.out];rintro e w4 ⟨rfl,L4⟩;obtain⟨X4,H4,t4⟩:=f8.out w4 L4;have e2:=X4.c0;rw[u] at e2;have g8:=X4.ld)
      |(go_at_call 136;refine (q74 S (t:Int) M.out w4 t4).mono ?_;rw[f0.out,e8.out];rintro e w5 ⟨A5,n5,c5,rfl,b0,_,R⟩;have L5:=L4.below R)
      |(go_at_call 130;refine (q2f L5 b9 (by omega) t _ rfl A5 n5 c5 sb b0.sl).mono ?_;rw[e5.out,e4.out];rintro e w6 ⟨rfl,L6⟩)
      |fail)
     go_ret;exact⟨by rw[R1.out];rfl,by rw[R2.out];exact L6.from B2⟩
   ·have i1:(E1 != 0)=true:=by simpa using h1
    rw[if_neg h1] at F G;have R1:=Lib.hid (show D.Ut (Uu C S)=false by unfold DM.Ut;rw[F];exact decide_eq_false h1);have R2:=Lib.hid G;clear F G h1;go_wp2_with (first
     |(go_at_call 135;refine (q37 O K (by omega)).mono ?_;rw[d4.out,d3.out];rintro e w4 ⟨rfl,L4⟩)
     |fail)
    go_ret;exact⟨by rw[R1.out];rfl,by rw[R2.out];exact L4.from B2⟩
end
section
def Hd.same (a b:Hd):Bool:=a.kind==b.kind&&(a.addr==b.addr&&(a.count==b.count&&(a.level==b.level&&a.gen==b.gen)))
theorem Hd.same_iff (a b:Hd):a.same b=true↔a=b:=by
 unfold Hd.same;simp only[Bool.and_eq_true,beq_iff_eq];constructor
 ·rintro⟨h1,h2,e,f,u⟩
  cases a;cases b;simp_all
 ·rintro rfl;simp
theorem qtj (d:Nat)(a b:Hd)(w:World):(Op.equalIn (d+2) 198 a.v b.v).run Tryz.prog w=.ok (a.same b) w:=by
 unfold Hd.v;rw[run_equalIn_agg w (d+1) 198 _ _ (by kernel_rfl) (by kernel_rfl)];unfold Program.fieldsOf;rw[Tryz.underlying198];simp[go_sem,Tryz.underlying3];unfold Hd.same;by_cases h1:a.kind=b.kind
 ·by_cases h2:a.addr=b.addr
  ·by_cases e:a.count=b.count
   ·by_cases f:a.level=b.level
    ·by_cases u:a.gen=b.gen
     ·simp[h1,h2,e,f,u]
     ·simp[h1,h2,e,f,u]
    ·simp[h1,h2,e,f]
   ·simp[h1,h2,e]
  ·simp[h1,h2]
 ·simp[h1]
theorem qyx (a b:Hd)(r:Bool)(h:a.same b=r)(w:World):(binOp .neq 198 (.agg #[.int .i64 a.kind,.int .i64 a.addr,.int .i64 a.count,.int .i64 a.level,.int .i64 a.gen]) (.agg #[.int .i64 b.kind,.int .i64 b.addr,.int .i64 b.count,.int .i64 b.level,.int .i64 b.gen])).run Tryz.prog w=.ok (.bool (!r)) w:=by
 rw[run_neq_struct];have:=qtj 9998 a b w;unfold Hd.v at this;rw[this,h];rfl
theorem qyy (e:BinOp)(x y:Operand)(xs f:Array Value)(w:World):(eqGuard e 198 x y (.agg xs) (.agg f)).run Tryz.prog w=.ok () w:=
 run_eqGuard_agg w e 198 x y xs f (by kernel_rfl)
theorem qjd {x:List UInt8}{a:Nat}{g:Int}:Kt x a g=(okB x&&(Yk x).same ⟨2,(a:Int),0,0,g⟩):=by
 cases e:okB x
 ·unfold Kt Rl;rw[e];rfl
 ·rw[Bool.true_and,Bool.eq_iff_iff,Hd.same_iff];unfold Kt Rl;rw[e,Bool.true_and,Bool.and_eq_true];constructor
  ·rintro⟨h1,h2⟩;obtain⟨f,u⟩:=of_decide_eq_true h1;obtain⟨y,A,B⟩:=of_decide_eq_true h2
   cases D:Yk x;rw[D] at f u y A B;simp_all
  ·intro h;rw[h];exact⟨decide_eq_true ⟨rfl,rfl⟩,decide_eq_true ⟨rfl,rfl,rfl⟩⟩
def mkP (a b:Value):Sem Value:=Instr.makeSlice 305 a b
theorem qtk (a b:Value):Instr.makeSlice 305 a b=mkP a b:=rfl
def Rw (n:Nat)(w:World):World:=w.alloc (.cells (madeCells #[.slice none 0 0] (n*1)) 48)
theorem qxb (n:Nat)(hn:n<=1000)(w:World):(mkP (.int .i64 (n:Int)) (.int .i64 (n:Int))).run Tryz.prog w=.ok (.slice (some ⟨w.1.size,0,none⟩) n n) (Rw n w):=by
 obtain⟨i,hi,f,e,u⟩:=info_parts (show (Tryz.prog.info? 48).map (λi=>(i.zero,i.size,i.bytes))=some (some (.slice none 0 0),1,24) by kernel_rfl);have h:=run_makeSlice (P:=Tryz.prog) w 305 48 i _ Tryz.underlying305 hi f .i64 .i64 n n (by omega) (by omega) (by rw[e,Int.toNat_natCast];omega) (by rw[u];omega) (by omega);rw[e] at h;exact h
theorem qtl (n:Nat)(w:World):(Rw n w).1[w.1.size]?=some (.cells (madeCells #[.slice none 0 0] (n*1)) 48 (0,0)):=heap_alloc_new w _
def BR (w:World)(b n j:Nat)(f:Nat->List UInt8):Prop:=∃cur:Array Value,w.1[b]?=some (.cells cur 48 (0,0))/\cur.size=n/\∀i,i<j->∃A m c,cur[i]?=some (.slice A m c)/\Sl w A m c (f i)/\∀e,A=some e->e.block≠b
theorem BR.lt {w:World}{b n j:Nat}{ls:Nat->List UInt8}(H:BR w b n j ls):b<w.1.size:=by
 obtain⟨cur,h,_⟩:=H;exact Kw h
theorem BR.below {w w':World}{b n j:Nat}{ls:Nat->List UInt8}(H:BR w b n j ls)(hb:Below w.1.size w w'):BR w' b n j ls:=by
 obtain⟨cur,h,h2,u⟩:=H;refine⟨cur,(hb.block b (Kw h)).trans h,h2,λi hi=>?_⟩;obtain⟨A,m,c,e,y,f⟩:=u i hi;exact⟨A,m,c,e,y.below hb,f⟩
theorem BR.at_ {w:World}{b n j:Nat}{ls:Nat->List UInt8}(H:BR w b n j ls){i:Nat}(hi:i<n):(∃v,w.cell? ⟨b,i,none⟩=some v)/\w.frozen? ⟨b,i,none⟩=false:=by
 obtain⟨cur,h,h2,_⟩:=H;refine⟨⟨cur[i],?_⟩,by unfold World.frozen?;rw[h];simp⟩;rw[cell_of_row _ _ _ _ _ _ h,Array.getElem?_eq_getElem (by omega)]
theorem BR.Af {w:World}{b n j:Nat}{ls:Nat->List UInt8}(H:BR w b n j ls)(hj:j<n){A:Option Addr}{m c:Nat}(hs:Sl w A m c (ls j))(hA:∀f,A=some f->f.block≠b):BR (w.setCell ⟨b,j,none⟩ (.slice A m c)) b n (j+1) ls:=by
 obtain⟨cur,h,h2,F⟩:=H;have T:Turn (λk=>k=b) w (w.setCell ⟨b,j,none⟩ (.slice A m c)):=Ac (a:=⟨b,j,none⟩) _ rfl;refine⟨_,heap_setCell_same w b j cur _ _ h,by simp[h2],λi hi=>?_⟩;by_cases e:i=j
 ·subst e;exact⟨A,m,c,by simp[h2,hj],q9n hs T λf e=>hA f e,hA⟩
 ·obtain⟨B,G,D,E,y,u⟩:=F i (by omega);exact⟨B,G,D,by rw[Array.getElem?_setIfInBounds_ne (Ne.symm e)];exact E,q9n y T λf e=>u f e,u⟩
theorem BR.parts {w:World}{b n:Nat}{ls:Nat->List UInt8}(H:BR w b n n ls)(hn:n<=1000):Parts w (some ⟨b,0,none⟩) n n ((List.range n).map ls):=by
 have u:=H.lt;obtain⟨cur,h,h2,B⟩:=H;refine⟨by simp,Nat.le_refl _,by unfold maxLen;omega,λj l f=>?_⟩;have y:j<n:=by have:=(List.getElem?_eq_some_iff.1 f).1;simpa using this
 rw[List.getElem?_map,List.getElem?_range y] at f;obtain rfl:ls j=l:=by simpa using f
 obtain⟨A,m,c,e,D,_⟩:=B j y;refine⟨_,A,m,c,rfl,u,?_,D⟩;rw[show (⟨b,0,none⟩:Addr).add j=⟨b,j,none⟩ by simp[Addr.add];exact λh=>h.symm,cell_of_row _ _ _ _ _ _ h];exact e
theorem qdg {D:DM}(e:D.off=false){s:Nat}(f:s<D.n):D.Yp (s:Int)=D.newest s/\D.Ye (s:Int)=0:=by
 unfold DM.Yp DM.Ye;have h:0<=(s:Int)/\(s:Int)<(D.n:Int):=by omega
 rw[e];simp only[Bool.false_eq_true,if_false];rw[if_pos h,if_pos h,Int.toNat_natCast];exact⟨rfl,rfl⟩
attribute [local go_sem ↓] q1n qtk
theorem qox {w:World}{d:Nat}{S0:Nat->Prop}{D:DM}(L:Wu w d S0 D)(f2:D.off=false)(S:Sp)(c8:S.may=true)(b6:S.Qa=(D.n:Int))(ht:Tab w) :
  Calls Tryz.prog 155 #[.pointer (some ⟨d,0,none⟩),.agg S.vs.toArray] w λe w'=>
   ((((∀i,i<Qh D.n->Kt (D.newest (Qv D.n S.gen+i)) (Qv D.n S.gen+i) S.gen=true)/\J9 (D.n:Int) (Si D.newest D.n S.gen)=0)/\∃p,e=.returned (.tuple #[.pointer (some ⟨p,0,none⟩),.int .i64 0])/\Yj w' p 0 (λk=>w.1.size<=k) (Nv D.newest D.n S.gen)/\w.1.size<=p)\/
    (¬((∀i,i<Qh D.n->Kt (D.newest (Qv D.n S.gen+i)) (Qv D.n S.gen+i) S.gen=true)/\J9 (D.n:Int) (Si D.newest D.n S.gen)=0)/\∃E,E≠0/\e=.returned (.tuple #[.pointer none,.int .i64 E])))/\Below w.1.size w w':=by
 have b8:=L.Qa;unfold Qa at b8;have a8:=(Tc c8).1;have hg:Aj S.gen:=⟨a8.1,a8.2.1⟩;obtain⟨g,a2⟩:∃g,S.gen=g:=⟨_,rfl⟩;rw[a2] at hg ⊢;have d3:=λi hi=>q6f b8.1 b8.2 g (i:=i) hi
 obtain⟨F,Q⟩:∃m,Qh D.n=m:=⟨_,rfl⟩;have f4:F<=18:=by unfold Qh at Q;omega
 obtain⟨a,ha⟩:∃a,Qv D.n g=a:=⟨_,rfl⟩;have hA:=qfa S D.n b6 b8.2 ⟨by rw[a2];have:=hg.1;omega,by rw[a2];have:=hg.2;omega⟩;rw[a2,ha,Q] at hA;rw[ha,Q] at d3;have hB:Si D.newest D.n g=(List.range F).map λi=>(D.newest (a+i)).drop 20:=by unfold Si;rw[Q,ha]
 have hC:Nv D.newest D.n g=Vr D.n (Si D.newest D.n g):=rfl;rw[hC,hB,ha,Q];generalize hG:((∀i,i<F->Kt (D.newest (a+i)) (a+i) g=true)/\J9 (D.n:Int) ((List.range F).map λi=>(D.newest (a+i)).drop 20)=0)=G;have HG:=Lib.hid hG;have HA:=Lib.hid hA;have e8:=Lib.hid d3;have e2:=λw' (H:SB w' w.1.size S)=>H.ld
 have q1:=λw' (H:SB w' w.1.size S)=>H.c1
 have q0:=λw' (H:SB w' w.1.size S)=>H.c0
 rw[b6] at q1;rw[a2] at q0;have g6:=Lib.hid e2;have Q0:=Lib.hid q0;have Q1:=Lib.hid q1;have X1:=SB.new w S 120;have b1:Below w.1.size w (w.alloc (.cells S.vs.toArray 120)):=Qk;have g9:=ht.1;have L1:=L.tight.below b1;have t1:=ht.below b1 ht.1;have e4:=X1.ld;have f1:=qxb F (by omega);clear hG hA d3 a8 hg b6 c8 Q ha e2 q0 q1 a2 L ht hB hC;go_enter Tryz.func155,Tryz.ntmps155
 go_wp2_with fail
 generalize w.alloc (.cells S.vs.toArray 120)=w1 at b1 L1 t1 X1 e4 ⊢;refine (HA.out w1).mono ?_;rintro e w2 ⟨rfl,b2⟩;have L2:=L1.below b2;have t2:=t1.below b2 t1.1;have X2:=X1.below b2 X1.lt;have B2:=b1.trans (b2.mono b1.size);clear e4 L1 t1 X1 b1 b2;have b3:Below w2.1.size w2 (Rw F w2):=Qk;have R3:BR (Rw F w2) w2.1.size F 0 (λi=>(D.newest (a+i)).drop 20):=⟨_,qtl F w2,by rw[size_madeCells,Nat.mul_one],λi hi=>absurd hi (Nat.not_lt_zero _)⟩;go_wp2_with fail
 have L3:=L2.below b3;have t3:=t2.below b3 t2.1;have X3:=X2.below b3 X2.lt;have B3:=B2.trans (b3.mono B2.size);have f3:w.1.size<w2.1.size:=X2.lt;generalize Rw F w2=w3 at R3 L3 t3 X3 B3 ⊢;obtain⟨bb,e0⟩:∃b,w2.1.size=b:=⟨_,rfl⟩;rw[e0] at R3 f3 ⊢;clear L2 t2 X2 B2 b3 e0 f1;go_loopw [9,10,11,12,13,14,23] (λ_ _ _ _ _ _ i wr=>∃j:Nat,j<=F/\i=.int .i64 (j:Int)/\(∀q,q<j->Kt (D.newest (a+q)) (a+q) g=true)/\BR wr bb F j (λi=>(D.newest (a+i)).drop 20)/\Wu wr d (λk=>S0 k/\k<w.1.size) D/\Tab wr/\SB wr w.1.size S/\Below w.1.size w wr) (λ_ _ _ _ _ _ i _=>F-(intOf i).toNat)
 case atStart=>exact⟨0,by omega,rfl,λq hq=>absurd hq (Nat.not_lt_zero _),R3,L3,t3,X3,B3⟩
 case round=>
  clear R3 L3 t3 X3 B3;obtain⟨j,hj,rfl,c7,R,L,t,X,B⟩:=hrel;have c6:=Lib.hid c7;clear c7;by_cases b0:j<F
  ·have e3:(j:Int)<(F:Int):=by omega
   obtain⟨_,i2,_,i4⟩:=e8.out j b0;obtain⟨s,hs⟩:∃s,a+j=s:=⟨_,rfl⟩;rw[hs] at i2 i4;have g8:(a:Int)+(j:Int)=(s:Int):=by omega
   obtain⟨r1,r2⟩:=qdg f2 i4;obtain⟨x,hx⟩:∃x,D.newest s=x:=⟨_,rfl⟩;rw[hx] at r1;obtain⟨_,_,_,_,_,L'⟩:=L;have d5:=q8t L' (s:Int);rw[r1,r2] at d5;have L:Wu wr d (λk=>S0 k/\k<w.1.size) D:=⟨_,_,_,_,_,L'⟩;have d0:=Lib.hid d5;have Hs:=Lib.hid hs;have Hx:=Lib.hid hx;clear d5 r1 r2 hs hx L'
   cases b7:okB x
   ·have e5:Kt (D.newest (a+j)) (a+j) g=false:=by rw[Hs.out,Hx.out,qjd,b7];rfl
    have c9:=Lib.hid (show ¬G by rw[<-HG.out];exact λh=>by have:=h.1 j b0;rw[e5] at this;cases this);obtain⟨o1,o2,o3⟩:=qif b7;clear e5;go_wp2_with (first
     |(go_at_call 138;refine d0.out.mono ?_;rintro e w4 ⟨A4,n4,rfl,s4,_,I,_⟩;have t4:=t.below I t.1)
     |(go_at_call 139;have hO:=q6y A4 n4 n4 x w4 s4 t4;unfold q1y at hO;rw[o1,o2,o3] at hO;refine hO.mono ?_;rintro e f ⟨A5,n5,c5,rfl,K,b5⟩)
     |(refine q5u rfl (.tmp 12) (.tmp 37) rfl f.1.size rfl Hd.zero _ rfl (HB.zero f _) (by simp) ?_;intro y J a7 T6;have O:Below f.1.size f y:=(Qk).trans (a7 _ (Nat.le_refl _));have A:Below wr.1.size wr y:=I.trans ((b5.trans (O.mono b5.size)).mono I.size))
     |fail)
    have B6:=B.trans (A.mono B.size);go_quiet (fail)
    generalize e6:World.drewN y _=w7;have B7:Below w.1.size w w7:=by rw[<-e6];exact⟨B6.os,B6.tape,B6.output,B6.size,B6.block⟩
    clear e6;go_wp2;go_ret2;exact⟨.inr ⟨c9.out,5,by omega,rfl⟩,B7⟩
   ·obtain⟨o1,o2,o3⟩:=q6x b7;obtain⟨H,hH⟩:∃H,Yk x=H:=⟨_,rfl⟩;have o1:Yk x=H:=hH;obtain⟨r,hr⟩:∃r,H.same ⟨2,(s:Int),0,0,g⟩=r:=⟨_,rfl⟩;have e1:Kt (D.newest (a+j)) (a+j) g=r:=by rw[Hs.out,Hx.out,qjd,b7,hH,hr];rfl
    have f9:=qyx H ⟨2,(s:Int),0,0,g⟩ r hr;have f8:=qyy;have q0:=Q0.out wr X;have zX:=X.lt;have d8:=Lib.hid e1;clear e1 hr hH
    cases r
    ·have c9:=Lib.hid (show ¬G by rw[<-HG.out];exact λh=>by have:=h.1 j b0;rw[d8.out] at this;cases this);go_wp2_with (first
      |(go_at_call 138;refine d0.out.mono ?_;rintro e w4 ⟨A4,n4,rfl,s4,_,I,_⟩;have t4:=t.below I t.1)
      |(go_at_call 139;have hO:=q6y A4 n4 n4 x w4 s4 t4;unfold q1y at hO;rw[o1,o2,o3] at hO;refine hO.mono ?_;rintro e f ⟨A5,n5,c5,rfl,K,b5⟩)
      |(refine q5u rfl (.tmp 12) (.tmp 37) rfl f.1.size rfl H _ rfl (HB.zero f _) (by simp) ?_;intro y J a7 T6;have O:Below f.1.size f y:=(Qk).trans (a7 _ (Nat.le_refl _));have A:Below wr.1.size wr y:=I.trans ((b5.trans (O.mono b5.size)).mono I.size))
      |fail)
     have b9:=(A.cell (p:=⟨w.1.size,0,none⟩) zX).trans q0;have d6:w.1.size<y.1.size:=Nat.lt_of_lt_of_le zX A.size;have zH:f.1.size<y.1.size:=by obtain⟨_,h⟩:=J;exact Kw h
     have B6:=B.trans (A.mono B.size);have U:=J.at_ 0;have W:=J.at_ 1;have Y:=J.at_ 2;have Z:=J.at_ 3;have a1:=J.at_ 4;simp only[Yr,Hd.En] at U W Y Z a1;have g0:∀u:Grown y,u.to.cell? ⟨w.1.size,0,none⟩=some (.int .i64 g):=Grown.cell b9 d6;have g1:∀u:Grown y,u.to.cell? ⟨f.1.size,0,none⟩=some (.int .i64 H.kind):=Grown.cell U zH;have g2:∀u:Grown y,u.to.cell? ⟨f.1.size,3,none⟩=some (.int .i64 H.level):=Grown.cell W zH;have g3:∀u:Grown y,u.to.cell? ⟨f.1.size,1,none⟩=some (.int .i64 H.addr):=Grown.cell Y zH;have g4:∀u:Grown y,u.to.cell? ⟨f.1.size,2,none⟩=some (.int .i64 H.count):=Grown.cell Z zH;have g5:∀u:Grown y,u.to.cell? ⟨f.1.size,4,none⟩=some (.int .i64 H.gen):=Grown.cell a1 zH;refine Uk (by kernel_rfl) (by kernel_rfl) ?_;repeat (go_big_quiet_step (first
      |(go_at_call 133;exact Calls.grown (q6j _ g _))
      |fail))
     refine wpQuiet_nil ?_;rintro _ ⟨u,rfl⟩;have B7:=B6.trans (u.ok.mono B6.size);go_wp2;go_ret2;exact⟨.inr ⟨c9.out,5,by omega,rfl⟩,B7⟩
    ·go_wp2_with (first
      |(go_at_call 138;refine d0.out.mono ?_;rintro e w4 ⟨A4,n4,rfl,s4,_,I,_⟩;have t4:=t.below I t.1)
      |(go_at_call 139;have hO:=q6y A4 n4 n4 x w4 s4 t4;unfold q1y at hO;rw[o1,o2,o3] at hO;refine hO.mono ?_;rintro e f ⟨A5,n5,c5,rfl,K,b5⟩)
      |(refine q5u rfl (.tmp 12) (.tmp 37) rfl f.1.size rfl H _ rfl (HB.zero f _) (by simp) ?_;intro y J a7 T6;have O:Below f.1.size f y:=(Qk).trans (a7 _ (Nat.le_refl _));have A:Below wr.1.size wr y:=I.trans ((b5.trans (O.mono b5.size)).mono I.size))
      |fail)
     have b9:=(A.cell (p:=⟨w.1.size,0,none⟩) zX).trans q0;have d6:w.1.size<y.1.size:=Nat.lt_of_lt_of_le zX A.size;have zH:f.1.size<y.1.size:=by obtain⟨_,h⟩:=J;exact Kw h
     have U:=J.at_ 0;have W:=J.at_ 1;have Y:=J.at_ 2;have Z:=J.at_ 3;have a1:=J.at_ 4;simp only[Yr,Hd.En] at U W Y Z a1;have g0:∀u:Grown y,u.to.cell? ⟨w.1.size,0,none⟩=some (.int .i64 g):=Grown.cell b9 d6;have g1:∀u:Grown y,u.to.cell? ⟨f.1.size,0,none⟩=some (.int .i64 H.kind):=Grown.cell U zH;have g2:∀u:Grown y,u.to.cell? ⟨f.1.size,3,none⟩=some (.int .i64 H.level):=Grown.cell W zH;have g3:∀u:Grown y,u.to.cell? ⟨f.1.size,1,none⟩=some (.int .i64 H.addr):=Grown.cell Y zH;have g4:∀u:Grown y,u.to.cell? ⟨f.1.size,2,none⟩=some (.int .i64 H.count):=Grown.cell Z zH;have g5:∀u:Grown y,u.to.cell? ⟨f.1.size,4,none⟩=some (.int .i64 H.gen):=Grown.cell a1 zH;refine Uk (by kernel_rfl) (by kernel_rfl) ?_;repeat (go_big_quiet_step (first
      |(go_at_call 133;exact Calls.grown (q6j _ g _))
      |fail))
     refine wpQuiet_nil ?_;rintro _ ⟨u,rfl⟩;have M:Below wr.1.size wr u.to:=A.trans (u.ok.mono A.size);have B7:=B.trans (M.mono B.size);have R7:=R.below M;have s7:Sl u.to A5 n5 c5 ((D.newest (a+j)).drop 20):=by rw[Hs.out,Hx.out,<-o2];exact (o2▸K.sl.below O).below u.ok
     have d9:∀ad,A5=some ad->ad.block≠bb:=λad e=>by have h1:=(K.block ad e).1;have h2:=R.lt;have h3:=I.size;omega
     obtain⟨⟨v7,i0⟩,f7⟩:=R7.at_ b0;have R8:=R7.Af b0 s7 d9;have L7:=L.below M;have t7:=t.below M t.1;have X7:=X.below M X.lt;have g7:bb<u.to.1.size:=R7.lt;have a6:Turn (λk=>k=bb) u.to (u.to.setCell ⟨bb,j,none⟩ (.slice A5 n5 c5)):=Ac (a:=⟨bb,j,none⟩) _ rfl;have B8:=B7.trans (a6.below (B:=w.1.size) (λk hk=>by omega) (by omega));have L8:=L7.keep λk hk hs=>a6.block k hk λe=>by have:=hs.2;omega
     have t8:=t7.turned a6 (by omega);have X8:=X7.block (a6.block _ X7.lt (by omega));clear R L t X B R7 L7 t7 X7 B7 s7 d9 g0 g1 g2 g3 g4 g5 U W Y Z a1 q0 b9 A M a6;go_wp2;refine⟨⟨j+1,by omega,by go_num,λq hq=>?_,R8,L8,t8,X8,B8⟩,by simp[intOf];omega⟩;by_cases e:q=j
     ·rw[e];exact d8.out
     ·exact c6.out q (by omega)
  ·have f0:j=F:=by omega
   subst f0;have q1:=Q1.out wr X;have P:=R.parts (by omega);have d4:=qo0 (D.n:Int) _ _ _ _ P;obtain⟨LE,d2⟩:∃x,J9 (D.n:Int) ((List.range j).map λi=>(D.newest (a+i)).drop 20)=x:=⟨_,rfl⟩;obtain⟨LC,d1⟩:∃x,Vr D.n ((List.range j).map λi=>(D.newest (a+i)).drop 20)=x:=⟨_,rfl⟩;rw[Int.toNat_natCast,d2,d1] at d4;have d7:=Lib.hid d2;have e7:=Lib.hid d1;have e3:¬(j:Int)<(j:Int):=by omega
   have e9:=Lib.hid d4;clear d2 d1 d4;go_wp2_with fail
   refine e9.out.mono ?_;rintro e w4 ⟨⟨h0,p,rfl,C4,hp⟩|⟨h0,rfl⟩,I⟩
   ·have hY:=Lib.hid (show G by rw[<-HG.out];exact⟨c6.out,d7.out.trans h0⟩);clear h0;go_wp2;go_ret2;have:=B.size;exact⟨.inl ⟨hY.out,p,rfl,by rw[e7.out];exact C4.mono λk hk=>by omega,by omega⟩,B.trans (I.mono B.size)⟩
   ·have hN:=Lib.hid (show ¬G by rw[<-HG.out];exact λh=>h0 (d7.out.symm.trans h.2));have H0:=Lib.hid h0;clear h0;go_wp2;go_ret2;exact⟨.inr ⟨hN.out,LE,H0.out,rfl⟩,B.trans (I.mono B.size)⟩
end
theorem qje {l:List UInt8}{slot:Int}(h:Xg l slot=true):(Gv l slot).may=true:=by
 rw[(qj5 h).1];unfold Xg at h;rw[Bool.and_eq_true,Bool.and_eq_true] at h;have:=h.2.1;unfold Yi at this;rw[Bool.and_eq_true] at this;exact this.1
theorem qyz {a b:List UInt8}(h:Ey a b=0):(snS a b).may=true:=by
 by_cases h1:Xg a 0=false/\Xg b 1=false
 ·rw[(Qcg h1.1 h1.2).2.2] at h
  cases h
 ·by_cases h2:(Gv a 0).gen<(Gv b 1).gen
  ·rw[(Qbl h1 h2).1]
   cases f:Xg b 1
   ·cases e:Xg a 0
    ·exact absurd ⟨e,f⟩ h1
    ·have u:=(Tc (qje e)).1.1;rw[(qhe f).1] at h2;have:Sp.zero.gen=0:=rfl;omega
   ·exact qje f
  ·rw[(Qbk h1 h2).1]
   cases e:Xg a 0
   ·cases f:Xg b 1
    ·exact absurd ⟨e,f⟩ h1
    ·have u:=(Tc (qje f)).1.1;rw[(qhe e).1] at h2;have:Sp.zero.gen=0:=rfl;omega
   ·exact qje e
theorem qjf {S:Sp}(h:S.may=true):S.fine:=λk e=>by
 have:=q6d h k e;unfold maxLen;omega
theorem qtm {n:Nat}{f:List (List UInt8)}(h:J9 (n:Int) f=0):(32<=n/\n<=2048)/\f.length=Qh n/\∀i,i<Qh n->q4b n (2+2*Qh n) i (nth f i):=by
 unfold J9 at h;split at h
 ·cases h
 ·rename_i h1;have h1:=Decidable.of_not_not h1;rw[Int.toNat_natCast] at h;split at h
  ·cases h
  ·rename_i h2;refine⟨by omega,?_,?_⟩
   ·exact Classical.byContradiction λe=>h2 (.inl e)
   ·exact Classical.byContradiction λe=>h2 (.inr e)
theorem qhj (n:Nat)(e:List (List UInt8)):(Vr n e).n=n:=q9l _ _ _
theorem qz0 {n:Nat}{f:List (List UInt8)}(h:J9 (n:Int) f=0):(Vr n f).res:=by
 obtain⟨h1,h2,B⟩:=qtm h;intro a A y;rw[qhj] at A;have E:a<2+2*Qh n:=by unfold Ct.first at y;rw[qhj] at y;exact y
 have e:nm (Vr n f).now a=nm (Yw n f (Qh n)).now a:=rfl;rw[e,q9m n f (Qh n) a A];split
 ·rename_i F;have hi:a / 118<Qh n:=by omega
  have u:=(B _ hi).2 (a % 118) (Nat.mod_lt _ (by omega));unfold Yt at u;have u:=of_decide_eq_false u;exact Classical.byContradiction λD=>u ⟨D,.inl (by omega)⟩
 ·rfl
