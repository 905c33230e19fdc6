/- The code's pool, plain facts: new blocks as they are kept (of generation 0), and dated -/
import Derived.Test.YtloolbmdiimanaaGreatDoorGv17
import Derived.Test.YtloolbmdiimanaaGreatDoorGv19
import Derived.Test.YtloolbmdiimanaaGreatDoorGv20
import Derived.Lib.SliceRun
namespace Go.Proofs.YtloolbmdiimanaaGreatDoor
open Go Go.RowKit Go.Proofs Tryz
set_option maxHeartbeats 8000000
set_option maxRecDepth 100000
def Em (g:Int):Prop:=0<=g/\g<=1099511627775
theorem qwz {g:Int}(h:Ad g):Em g:=⟨Int.le_trans (by omega) h.1,h.2⟩
theorem q1w:Em 0:=⟨by omega,by omega⟩
def Bk.hd (b:Bk)(a:Nat)(g:Int):Hd:=match b with
 |.node N=>N.head (a:Int) g
 |.bytes k l=>Ba k a l.length g
def Bk.body (b:Bk):LU:=match b with
 |.node N=>N.body
 |.bytes _ l=>l
structure Bk.good (b:Bk):Prop where
 hd:∀(a:Nat) (g:Int),a<=2047->Em g->(b.hd a g).ok=true
 body:b.body.length<=236
 out:∀(a:Nat) (g:Int),a<=2047->Em g->b.out a g=Zk (b.hd a g) b.body
theorem Bk.good.len {b:Bk}(h:b.good){a:Nat}{g:Int}(ha:a<=2047)(hg:Em g):(b.out a g).length=256:=by
 rw[h.out a g ha hg];exact q9m _ _ h.body
theorem Bk.good.fine {b:Bk}(h:b.good):b.fine:=λ_ _ e f=>h.len e (qwz f)
theorem Bk.good.opens {b:Bk}(h:b.good){a:Nat}{g:Int}(ha:a<=2047)(hg:Em g):Xo (b.out a g)=b.hd a g/\Un (b.out a g)=b.body++List.replicate (236-b.body.length) 0/\Me (b.out a g)=0:=by
 rw[h.out a g ha hg];exact q4i _ _ (h.hd a g ha hg) h.body
def Yg (k:Int):Option Nat:=if k=5 then some 128 else if k=6 then some 236 else none
theorem q58 {k:Int}{m:Nat}(h:Yg k=some m):(k=5\/k=6)/\m<=236:=by
 unfold Yg at h;split at h
 ·cases h;exact⟨.inl (by assumption),by omega⟩
 ·split at h
  ·cases h;exact⟨.inr (by assumption),by omega⟩
  ·cases h
theorem qp6 {k:Int}{a m:Nat}{g:Int}(u:k=5\/k=6)(f:a<=2047)(e:Em g)(hm:m<=236):(Ba k a m g).ok=true:=by
 refine AL ⟨⟨?_,?_⟩,⟨by show (0:Int)<=0;omega,by show (0:Int)<=8;omega⟩,⟨?_,?_⟩,⟨?_,?_⟩,e.1,e.2⟩
 ·show 1<=k;omega
 ·show k<=6;omega
 ·show (0:Int)<=(a:Int);omega
 ·show (a:Int)<=2047;omega
 ·show (0:Int)<=(m:Int);omega
 ·show (m:Int)<=65535;omega
theorem qcg {k:Int}{l:LU}(u:k=5\/k=6)(e:l.length<=236):(Bk.bytes k l).good:=
 ⟨λ_ _ f g=>qp6 u f g e,e,λ_ _ _ _=>rfl⟩
theorem qp7 (k:Int)(a most:Nat)(g:Int)(l:LU)(B:k=5\/k=6)(y:a<=2047)(A:Em g)(D:l.length<=most)(hm:most<=236):Vd (Zk (Ba k a l.length g) l) k a most=true/\Oq (Zk (Ba k a l.length g) l)=l:=by
 have f:=qp6 (m:=l.length) B y A (by omega);have e:l.length<=236:=by omega
 have u:(Xo (Zk (Ba k a l.length g) l)).count.toNat=l.length:=by rw[(q4i _ _ f e).1];show ((l.length:Int)).toNat=_;exact AJ _
 refine⟨?_,?_⟩
 ·unfold Vd;rw[qhe _ _ f e,u,(q4i _ _ f e).1,q9n _ _ e,List.drop_left,qox,Bool.and_true,BN];exact⟨AL ⟨rfl,rfl⟩,AL ⟨rfl,by show ((l.length:Nat):Int)<=_;omega⟩⟩
 ·unfold Oq;rw[u,q9n _ _ e,List.take_left]
def Pl.live (P:Pl)(a:Nat):Option Bk:=if P.C.get (a:Int)=0 then none else P.L a
structure DM.Y2 (D:DM)(m:Nat):Prop where
 steps:D.steps<=m
 rows:∀s,(D.Zp s).length<=m
theorem DM.Y2.mono {D:DM}{m m':Nat}(h:D.Y2 m)(hm:m<=m'):D.Y2 m':=⟨AZ h.steps hm,λs=>AZ (h.rows s) hm⟩
theorem qjy (n:Nat):(DM.mk0 n).Y2 0:=⟨AE _,λ_=>AE _⟩
theorem q59 {D:DM}{m:Nat}(h:D.Y2 m):D.stepD.Y2 (m+1):=by
 refine⟨?_,λs=>AZ (h.rows s) (by omega)⟩;have:=h.steps;show (if D.stop then D.steps else D.steps+1)<=m+1;split<;>omega
theorem qmb {D:DM}{m:Nat}(h:D.Y2 m)(s:Int)(x:LU):(D.Yr s x).Y2 (m+1):=by
 unfold DM.Yr;split
 ·exact h.mono (by omega)
 ·split
  ·exact q59 h
  ·refine⟨(q59 h).steps,λt=>?_⟩;show (upd D.Zp s.toNat (D.Zp s.toNat++[x]) t).length<=m+1;unfold upd;split
   ·have:=h.rows s.toNat;rw[AD];simp;omega
   ·exact AZ (h.rows t) (by omega)
theorem qmc {D:DM}{m:Nat}(h:D.Y2 m):D.Wh.Y2 (m+1):=by
 unfold DM.Wh;split
 ·exact q59 h
 ·exact⟨(q59 h).steps,λ_=>AW _⟩
theorem q6t {D:DM}{m:Nat}(h:D.Y2 m)(a:Stp):(D.does a).Y2 (m+1):=by
 cases a with
 |w s x=>exact qmb h s x
 |fl=>exact qmc h
theorem q6u:∀(l:List Stp) {D:DM} {m:Nat},D.Y2 m->(D.Qy l).Y2 (m+l.length)
 |[],_,_,h=>h
 |a::l,D,m,h=>by
  show (if D.says a=0 then (D.does a).Qy l else D.does a).Y2 (m+(l.length+1));split
  ·exact (q6u l (q6t h a)).mono (by omega)
  ·exact (q6t h a).mono (by omega)
theorem qvr (D:DM)(a:Stp):(D.does a).n=D.n:=by
 cases a with
 |w s x=>show (D.Yr s x).n=D.n;unfold DM.Yr;split;rfl;split<;>rfl
 |fl=>show D.Wh.n=D.n;unfold DM.Wh;split<;>rfl
theorem qx0:∀(l:List Stp) (D:DM),(D.Qy l).n=D.n
 |[],_=>rfl
 |a::l,D=>by
  show (if D.says a=0 then (D.does a).Qy l else D.does a).n=D.n;split
  ·rw[qx0 l,qvr]
  ·exact qvr D a
theorem qac (l:List Stp)(a:Stp)(D:DM):D.Jk (l++[a])=if D.Jk l=0 then (D.Qy l).says a else D.Jk l:=by
 rw[q3y];split
 ·show (if (D.Qy l).says a=0 then (0:Int) else (D.Qy l).says a)=_;split
  ·rename_i h;exact h.symm
  ·rfl
 ·rfl
theorem qad (l:List Stp)(a:Stp)(D:DM):D.Qy (l++[a])=if D.Jk l=0 then (D.Qy l).does a else D.Qy l:=by
 rw[q3z];split
 ·show (if (D.Qy l).says a=0 then (D.Qy l).does a else (D.Qy l).does a)=_;split<;>rfl
 ·rfl
theorem q68 {l l':List Stp}{D:DM}(h:D.Jk l≠0):D.Jk (l++l')=D.Jk l/\D.Qy (l++l')=D.Qy l:=by
 rw[q3y,q3z,AB h,AB h];exact⟨rfl,rfl⟩
section
open Go.ChangeMaps (setBlock)
structure PH (cur:Array Value)(d m:Nat)(S:Sp):Prop where
 size:cur.size=41
 disk:cur[0]?=some (.pointer (some ⟨d,0,none⟩))
 sup:∀(j:Nat) x,S.vs[j]?=some x->cur[1+j]?=some x
 fresh:cur[40]?=some (.map (some m))
structure PL (w:WD)(p d m:Nat)(cur:Array Value)(l:List MapEntry)(clock:Nat)(v:Nat->Value)(Sc S T:NP)(P:Pl):Prop where
 me:w.heap[p]?=some (.cells cur 66 (0,0))
 ph:PH cur d m P.S
 ct:Yu w p 36 Sc P.C
 map:w.heap[m]?=some (.map l.toArray clock)
 ents:U0 l clock
 look:∀a:Nat,Zf a l=(P.live a).map λ_=>v a
 keys:∀e∈l,∃a:Nat,a<P.C.n/\kI e=a
 row:∀a b,P.live a=some b->∃g c,v a=.slice (some ⟨g,0,none⟩) 256 c/\Sl w (some ⟨g,0,none⟩) 256 c (b.out a 0)/\¬T g
 good:∀a b,P.L a=some b->b.good
 Ym:S p/\S m/\(∀k,Sc k->S k)
 ne:∀k,Sc k->k≠p/\k≠m
 sub:∀k,S k->T k
 ok:P.ok
 He:P.S.fine
def Pool (w:WD)(p d:Nat)(S T:NP)(P:Pl):Prop:=∃m cur l clock v Sc,PL w p d m cur l clock v Sc S T P
section
variable {w w':WD}{p d m clock:Nat}{cur:Array Value}{l:List MapEntry}{v:Nat->Value}{Sc S T:NP}{P:Pl}
theorem PL.p_m (L:PL w p d m cur l clock v Sc S T P):p≠m:=λe=>by
 have h:=L.me;rw[e,L.map] at h;cases h
theorem PL.Iz (L:PL w p d m cur l clock v Sc S T P):p<w.1.size:=Kw L.me
theorem PL.mlt (L:PL w p d m cur l clock v Sc S T P):m<w.1.size:=Kw L.map
theorem PL.keep (L:PL w p d m cur l clock v Sc S T P)(hk:∀k,k<w.1.size->S k\/¬T k->w'.1[k]?=w.1[k]?)(hz:w.1.size<=w'.1.size):PL w' p d m cur l clock v Sc S T P:=by
 have B:=hk p L.Iz (.inl L.Ym.1);have F:=hk m L.mlt (.inl L.Ym.2.1);refine⟨B.trans L.me,L.ph,L.ct.keep B λk y A=>hk k y (.inl (L.Ym.2.2 k A)),F.trans L.map,L.ents,L.look,L.keys,λa b h=>?_,L.good,L.Ym,L.ne,L.sub,L.ok,L.He⟩;obtain⟨g,c,e,A,D⟩:=L.row a b h;refine⟨g,c,e,?_,D⟩;exact stay_slice A hz λf=>hk g f (.inr D)
 where
 stay_slice {w w':WD} {g n c:Nat} {x:LU} (h:Sl w (some ⟨g,0,none⟩) n c x) (hz:w.1.size<=w'.1.size) (f:g<w.1.size->w'.1[g]?=w.1[g]?):Sl w' (some ⟨g,0,none⟩) n c x:=
  ⟨h.1,h.2.1,h.2.2.1,λj u H=>by
   obtain⟨I,e,E,G⟩:=h.2.2.2 j u H;injection e with e;subst e;exact⟨_,rfl,Nat.lt_of_lt_of_le E hz,(AY (a:=(⟨g,0,none⟩:Addr).add j) (by rw[Oa];exact f E)).trans G⟩⟩
theorem PL.other (L:PL w p d m cur l clock v Sc S T P){S':NP}(t:Turn S' w w')(hT:∀k,S' k->T k)(hS:∀k,S' k->¬S k):PL w' p d m cur l clock v Sc S T P:=
 L.keep (λk f h=>t.block k f λe=>h.elim (hS k e) λh2=>h2 (hT k e)) t.size
theorem PL.below (L:PL w p d m cur l clock v Sc S T P)(hb:Below w.1.size w w'):PL w' p d m cur l clock v Sc S T P:=L.keep (λk e _=>hb.block k e) hb.size
theorem PL.mono {S' T':NP}(L:PL w p d m cur l clock v Sc S T P)(hS:∀k,k<w.1.size->S k->S' k)(hT:∀k,k<w.1.size->T' k->T k)(hST:∀k,S' k->T' k):PL w p d m cur l clock v (λk=>Sc k/\k<w.1.size) S' T' P:=
 ⟨L.me,L.ph,L.ct.shrink,L.map,L.ents,L.look,L.keys,λa b h=>by
  obtain⟨g,c,e,A,D⟩:=L.row a b h;have y:g<w.1.size:=by
   have h1:=A.len;obtain⟨E,u,B,_⟩:=A.2.2.2 0 (bv ((b.out a 0).getD 0 0)) (by rw[BA,AG,AC (by omega)];rfl);injection u with u;subst u;exact B
  exact⟨g,c,e,A,λh=>D (hT g y h)⟩,L.good,⟨hS p L.Iz L.Ym.1,hS m L.mlt L.Ym.2.1,λk f=>hS k f.2 (L.Ym.2.2 k f.1)⟩,λk f=>L.ne k f.1,hST,L.ok,L.He⟩
theorem PL.c0 (L:PL w p d m cur l clock v Sc S T P):w.cell? ⟨p,0,none⟩=some (.pointer (some ⟨d,0,none⟩)):=q39 L.me L.ph.disk
theorem PL.c40 (L:PL w p d m cur l clock v Sc S T P):w.cell? ⟨p,40,none⟩=some (.map (some m)):=q39 L.me L.ph.fresh
theorem PL.Qas (L:PL w p d m cur l clock v Sc S T P){C':Ct}(t:Turn Sc w w')(H:Yu w' p 36 Sc C')(hn:C'.n=P.C.n)(hlive:∀a:Nat,C'.get (a:Int)=0↔P.C.get (a:Int)=0)(hok:Pl.ok ⟨P.S,C',P.L⟩):PL w' p d m cur l clock v Sc S T ⟨P.S,C',P.L⟩:=by
 have B:=t.block p L.Iz λh=>(L.ne p h).1 rfl
 have hm:=t.block m L.mlt λh=>(L.ne m h).2 rfl
 have u:∀a,Pl.live ⟨P.S,C',P.L⟩ a=P.live a:=λa=>by
  unfold Pl.live;by_cases h:P.C.get (a:Int)=0
  ·rw[AA h,AA ((hlive a).2 h)]
  ·rw[AB h,AB λh2=>h ((hlive a).1 h2)]
 refine⟨B.trans L.me,L.ph,H,hm.trans L.map,L.ents,λa=>by rw[u a];exact L.look a,λe y=>by rw[hn];exact L.keys e y,λa b h=>?_,L.good,L.Ym,L.ne,L.sub,hok,L.He⟩;rw[u a] at h;obtain⟨g,c,e,D,f⟩:=L.row a b h;exact⟨g,c,e,PL.keep.stay_slice D t.size λA=>t.block g A λh=>f (L.sub g (L.Ym.2.2 g h)),f⟩
end
theorem Pool.below {w w':WD}{p d:Nat}{S T:NP}{P:Pl}(h:Pool w p d S T P)(hb:Below w.1.size w w'):Pool w' p d S T P:=by
 obtain⟨m,cur,l,clock,v,Sc,L⟩:=h;exact⟨m,cur,l,clock,v,Sc,L.below hb⟩
theorem Pool.other {w w':WD}{p d:Nat}{S T:NP}{P:Pl}(h:Pool w p d S T P){S':NP}(t:Turn S' w w')(hT:∀k,S' k->T k)(hS:∀k,S' k->¬S k):Pool w' p d S T P:=by
 obtain⟨m,cur,l,clock,v,Sc,L⟩:=h;exact⟨m,cur,l,clock,v,Sc,L.other t hT hS⟩
theorem Pool.mono {w:WD}{p d:Nat}{S T S' T':NP}{P:Pl}(h:Pool w p d S T P)(hS:∀k,k<w.1.size->S k->S' k)(hT:∀k,k<w.1.size->T' k->T k)(hST:∀k,S' k->T' k):Pool w p d S' T' P:=by
 obtain⟨m,cur,l,clock,v,Sc,L⟩:=h;exact⟨m,cur,l,clock,v,_,L.mono hS hT hST⟩
theorem Pool.ok {w:WD}{p d:Nat}{S T:NP}{P:Pl}(h:Pool w p d S T P):P.ok:=by
 obtain⟨m,cur,l,clock,v,Sc,L⟩:=h;exact L.ok
end
theorem qg0 (S:Sp)(n:Nat)(I:S.Qa=(n:Int))(hn:n<=2048)(G:0<=S.gen/\S.gen<=1099511627776)(w:WD) :
  Calls prog 36 #[.agg S.vs.toArray] w λe w'=>e=.returned (.tuple #[.int .i64 (Qx n S.gen:Int),.int .i64 (Qj n:Int)])/\Below w.1.size w w':=by
 have B:=SB.new w S 61;have E:Below w.1.size w (w.alloc (.cells S.vs.toArray 61)):=Ql;have M:=B.c1;have K:=B.c0;rw[I] at M;obtain⟨g,y⟩:∃g,S.gen=g:=⟨_,rfl⟩;rw[y] at K G ⊢;obtain⟨W,X⟩:=G;obtain⟨f,hm⟩:∃m,Qj n=m:=⟨_,rfl⟩;have U:f<=18:=by unfold Qj at hm;omega
 obtain⟨t,J⟩:∃t,(g % 2).toNat=t:=⟨_,rfl⟩;have Y:t<2:=by omega
 have Z:g.tmod 2=(t:Int):=by rw[Int.tmod_eq_emod_of_nonneg (by omega)];omega
 obtain⟨u,A⟩:∃u,f*t=u:=⟨_,rfl⟩;have a0:u<=18:=by rw[<-A];rcases (show t=0\/t=1 by omega) with e|e<;>rw[e]<;>omega
 have H:(t:Int)*(f:Int)=(u:Int):=by rw[<-A,Int.mul_comm];exact (Int.natCast_mul f t).symm
 obtain⟨a,F⟩:∃a,2+u=a:=⟨_,rfl⟩;have Q:(2:Int)+(u:Int)=(a:Int):=by omega
 have R:a<=20:=by omega
 have D:=HI (show Qx n g=a by unfold Qx;rw[hm,J,A,F]);have O:=HI hm;rw[hm];clear hm J A F I y B;go_enter func36,ntmps36
 go_wp2_with fail
 generalize w.alloc (.cells S.vs.toArray 61)=w1 at E K M ⊢;refine (qd4 (n:Int) n rfl (by omega) f O.out w1).mono ?_;rintro e w2 ⟨rfl,rfl⟩;go_wp2;go_ret2;rw[D.out];exact⟨rfl,E⟩
theorem q1f {g:Array Oper}{f:List Oper}{o:Oper}{a:Act}{w:WD}{Q:Exit->Act->WD->Prop}(E:o.guard=none)(x y:Operand)(u:o.op=Op.store 94 x y)
  (b:Nat) (A:a.eval x=.pointer (some ⟨b,0,none⟩)) (h h0:Hd) (F:a.eval y=h.v) (H:HB w b h0) (I:b<w.1.size)
  (D:∀w',HB w' b h->(∀B,B<=b->Below B w w')->Turn (λk=>k=b) w w'->wpList prog g Q f (a.put o.dst undef) w'):wpList prog g Q (o::f) a w:=by
 refine wpList_store_mid E _ x y u b 0 h.vs.toArray A F H.there (by kernel_rfl) (by simp[Hd.vs,Value.oneCell']) ?_;have T:=Us (S:=λk=>k=b) rfl h.vs 0 w;refine D _ ?_ (λB G=>T.below (λx A=>by omega) (by omega)) T;obtain⟨t,H⟩:=H;have e:=q0z b t h.vs 0 w h0.vs H (by show 0+5<=5;omega);rw[q3w h0.vs h.vs rfl] at e;exact⟨t,e⟩
theorem q6v (a g:Int)(w:WD):Calls prog 38 #[.int .i64 a,.int .i64 g] w λe w'=>e=.returned (.agg #[.int .i64 2,.int .i64 a,.int .i64 0,.int .i64 0,.int .i64 g])/\Below w.1.size w w':=by
 have y:=HB.zero w 94;have A:Below w.1.size w (w.alloc (.cells #[.int .i64 0,.int .i64 0,.int .i64 0,.int .i64 0,.int .i64 0] 94)):=Ql;go_enter func38,ntmps38
 go_wp2_with (first
  |(refine D5 rfl _ _ rfl w.1.size rfl ⟨2,a,0,0,g⟩ _ rfl y (by simp) ?_;intro D u f B)
  |fail)
 refine bodyPost_ret (q2n Tryz.results38 rfl (q3c u)) rfl ?_;exact⟨rfl,A.trans (f _ (AE _))⟩
def Dz (k:Int):Int:=match Yg k with|some m=>(m:Int)|none=>0
theorem q34 (k:Int)(w:WD):Calls prog 74 #[.int .i64 k] w λe w'=>e=.returned (.tuple #[.int .i64 (Dz k),.bool (Yg k).isSome])/\w=w':=by
 by_cases f:k=5
 ·subst f;go_enter func74,ntmps74
  go_wp2;go_ret2;exact⟨rfl,rfl⟩
 ·by_cases g:k=6
  ·subst g;go_enter func74,ntmps74
   go_wp2;go_ret2;exact⟨rfl,rfl⟩
  ·have u:(k==5)=false:=by simpa using f
   have y:(k==6)=false:=by simpa using g
   have hm:=HI (show Yg k=none by unfold Yg;rw[AB f,AB g]);go_enter func74,ntmps74
   go_wp2;go_ret2;unfold Dz;rw[hm.out];exact⟨rfl,rfl⟩
theorem q8l (A:OA)(n c:Nat)(l:LU)(r:Bool)(D:Yc l=r)(w:WD)(h:Sl w A n c l) :
  Calls prog 77 #[.slice A n c] w λe w'=>e=.returned (.bool r)/\Below w.1.size w w':=by
 have f:=h.len;have u:Below w.1.size w (w.alloc (.cells #[.int .u8 0] 5)):=Ql;have B:(w.alloc (.cells #[.int .u8 0] 5)).cell? ⟨w.1.size,0,none⟩=some (.int .u8 0):=by rw[cell_of_row _ _ _ _ _ _ (BE w _)];rfl
 obtain⟨q,y⟩:∃q,Lib.countByte l 0=q:=⟨_,rfl⟩;have g:=HI (show ((q:Int)==(n:Int))=r by
  have:=qfw l;rw[y,f,D] at this
  cases r
  ·exact AH (λe:(q:Int)=(n:Int)=>by have:=this.1 (by omega);cases this)
  ·exact AL (by have:=this.2 rfl;omega:(q:Int)=(n:Int)))
 clear f;go_enter func77,ntmps77
 go_wp2_with fail
 refine (qce A n c l w.1.size 1 _ (h.below u) B).mono ?_;rw[y];rintro e E ⟨rfl,rfl⟩;go_wp2;go_ret;exact⟨by rw[<-g.out];rfl,u⟩
theorem Vp.below {w w':WD}{d:Nat}{S:NP}{D:DM}(L:Vp w d S D)(hb:Below w.1.size w w'):Vp w' d S D:=L.keep λk e _=>hb.block k e
theorem Vp.Qa {w:WD}{d:Nat}{S:NP}{D:DM}(L:Vp w d S D):Go.Proofs.YtloolbmdiimanaaGreatDoor.Qa D.n:=by
 obtain⟨e,f,l,clock,v,L⟩:=L;exact L.n32
structure Iy (w0 w:WD)(d:Nat)(S:NP)(D:DM):Prop where
 Bc:Vp w d (λk=>S k\/w0.heap.size<=k) D
 turn:Turn S w0 w
theorem Vp.dsk {w:WD}{d:Nat}{S:NP}{D:DM}(L:Vp w d S D):Iy w w d S D:=⟨L.mono λ_ _ h=>.inl h,Turn.refl _ _⟩
theorem Iy.below {w0 w w':WD}{d:Nat}{S:NP}{D:DM}(L:Iy w0 w d S D)(hb:Below w.1.size w w'):Iy w0 w' d S D:=⟨L.Bc.below hb,L.turn.trans (Zb hb) λ_ e=>.inl e⟩
theorem q2o {y w:WD}{d:Nat}{S:NP}{D:DM}(L:Iy y w d S D){m:Nat}(g:D.Y2 m)(hm:m<=900000)(s:Nat)(z:Int)(u:z=(s:Int))(A:OA)(n c:Nat)(x:LU)(h:Sl w A n c x) :
  Calls prog 33 #[.pointer (some ⟨d,0,none⟩),.int .i64 z,.slice A n c] w λe w'=>e=.returned (.int .i64 (D.says (.w s x)))/\Iy y w' d S (D.does (.w s x)):=by
 subst u;refine (qob L.Bc (s:Int) A n c x h (by have:=g.steps;omega) λk=>by have:=g.rows k;omega).mono ?_;rintro e w' ⟨rfl,R,T⟩;have u:=L.turn.size;exact⟨rfl,R.mono λk _ f=>f.elim id λh=>.inr (by omega),L.turn.trans T λk f=>f⟩
theorem q3n {g w:WD}{d:Nat}{S:NP}{D:DM}(L:Iy g w d S D){m:Nat}(f:D.Y2 m)(hm:m<=900000) :
  Calls prog 34 #[.pointer (some ⟨d,0,none⟩)] w λe w'=>e=.returned (.int .i64 (D.says .fl))/\Iy g w' d S (D.does .fl):=by
 refine (qom L.Bc (by have:=f.steps;omega) λk=>by have:=f.rows k;omega).mono ?_;rintro e w' ⟨rfl,R,T⟩;exact⟨rfl,R,L.turn.trans T λk u=>u⟩
def DM.Uu (D:DM)(l:List Stp):Bool:=decide (D.Jk l=0)
theorem qmd {w:WD}{d:Nat}{S:NP}{D:DM}(L:Vp w d S D){m:Nat}(ht:D.Y2 m)(hm:m<=800000) :
  Calls prog 21 #[.pointer (some ⟨d,0,none⟩)] w λe w'=>e=.returned (.bool (D.Uu (Vf D.n)))/\Iy w w' d S (D.Qy (Vf D.n)):=by
 have L0:=L.dsk;have hA:Vf D.n=[.w 0 q12,.w 1 q12]++[.fl]:=rfl;have hw:∀j,j<2->([.w 0 q12,.w 1 q12]:List Stp).take (j+1)=([.w 0 q12,.w 1 q12]:List Stp).take j++[.w j q12]:=λj hj=>by
  rcases (show j=0\/j=1 by omega) with e|e<;>subst e<;>rfl
 obtain⟨u,J⟩:∃W:List Stp,[.w 0 q12,.w 1 q12]=W:=⟨_,rfl⟩;rw[J] at hA hw;have X:u.length=2:=by rw[<-J];rfl
 have HA:=HI hA;have HW:=HI hw;have HL:=HI X;clear hA hw J X;go_enter func21,ntmps21
 go_wp2_with fail
 go_loopw [3,4] (λ_ i wr=>∃j:Nat,j<=2/\i=.int .i64 (j:Int)/\D.Jk (u.take j)=0/\Iy w wr d S (D.Qy (u.take j))) (λ_ i _=>2-(intOf i).toNat)
 case atStart=>exact⟨0,by omega,rfl,rfl,L0⟩
 case round=>
  clear L0;obtain⟨j,hj,rfl,hE,Z⟩:=hrel;have G:=q6u (u.take j) ht;have a2:(u.take j).length<=2:=by rw[AR];omega
  obtain⟨H,I⟩:∃H,D.Qy (u.take j)=H:=⟨_,rfl⟩;rw[I] at Z G;have B:=HI I;have Y:=HI hE;clear I hE;by_cases a1:j<2
  ·have e3:(j:Int)<2:=by omega
   have M:=HI (HW.out j a1);have R:=HI (show D.Jk (u.take (j+1))=H.says (.w j q12) by rw[M.out,qac,AA Y.out,B.out]);have Q:=HI (show D.Qy (u.take (j+1))=H.does (.w j q12) by rw[M.out,qad,AA Y.out,B.out]);obtain⟨E,U⟩:∃E,H.says (.w j q12)=E:=⟨_,rfl⟩;have F:=HI U;clear U;by_cases h0:E=0
   ·have nb:(E != 0)=false:=by simpa using h0
    have H0:=HI h0;clear h0;go_wp2_with (first
     |(at_make;refine q7a _ Cb rfl _ _ rfl _ _ 256 rfl rfl (by omega) ?_;intro w3 A K;have L3:=Z.below K)
     |(go_at_call 33;refine (q2o L3 G (by omega) j _ rfl _ 256 256 q12 A.sl).mono ?_;rw[F.out];rintro e w4 ⟨rfl,O⟩)
     |fail)
    exact⟨⟨j+1,by omega,by go_num,R.out.trans (F.out.trans H0.out),by rw[Q.out];exact O⟩,by simp[intOf];omega⟩
   ·have nb:(E != 0)=true:=by simpa using h0
    have g:D.Jk (u.take (j+1))≠0:=λh=>h0 (F.out.symm.trans (R.out.symm.trans h))
    have y:Vf D.n=u.take (j+1)++(u.drop (j+1)++[.fl]):=by rw[HA.out,<-AM,AV]
    obtain⟨r1,r2⟩:=q68 (l':=u.drop (j+1)++[.fl]) g;have R1:=HI (show D.Uu (Vf D.n)=false by unfold DM.Uu;rw[y,r1];exact AH g);have R2:=HI (show D.Qy (Vf D.n)=H.does (.w j q12) by rw[y,r2,Q.out]);clear y r1 r2 g h0;go_wp2_with (first
     |(at_make;refine q7a _ Cb rfl _ _ rfl _ _ 256 rfl rfl (by omega) ?_;intro w3 A K;have L3:=Z.below K)
     |(go_at_call 33;refine (q2o L3 G (by omega) j _ rfl _ 256 256 q12 A.sl).mono ?_;rw[F.out];rintro e w4 ⟨rfl,O⟩)
     |fail)
    go_ret;exact⟨by rw[R1.out];rfl,by rw[R2.out];exact O⟩
  ·have a0:j=2:=by omega
   subst a0;have f:u.take 2=u:=AN (by rw[HL.out];exact AE _);have R1:=HI (show D.Uu (Vf D.n)=decide (H.says .fl=0) by unfold DM.Uu;rw[HA.out,qac,<-f,AA Y.out,B.out]);have R2:=HI (show D.Qy (Vf D.n)=H.does .fl by rw[HA.out,qad,<-f,AA Y.out,B.out]);clear f;go_wp2_with (first
    |(go_at_call 34;refine (q3n Z G (by omega)).mono ?_;rintro e w4 ⟨rfl,O⟩)
    |fail)
   go_ret;exact⟨by rw[R1.out];rfl,by rw[R2.out];exact O⟩
section
theorem Tab.turned {w w':WD}{S:NP}(h:Tab w)(T:Turn S w w')(hS:¬S 1):Tab w':=
 ⟨Nat.lt_of_lt_of_le h.1 T.size,λk e=>(AY (a:=⟨1,k,none⟩) (T.block _ h.1 hS)).trans (h.2 k e)⟩
theorem Vp.tight {w:WD}{d:Nat}{S:NP}{D:DM}(L:Vp w d S D):Vp w d (λk=>S k/\k<w.1.size) D:=L.mono λ_ h1 h2=>⟨h2,h1⟩
theorem Iy.from {w0 w1 w:WD}{d:Nat}{S:NP}{D:DM}(L:Iy w1 w d (λk=>S k/\k<w0.1.size) D)(b:Below w0.1.size w0 w1):Iy w0 w d S D:=
 ⟨L.Bc.mono λk _ e=>e.elim (λh=>.inl h.1) λh=>.inr (by have:=b.size;omega),(Zb b |>.mono (S':=S) λ_ h=>h).trans L.turn λ_ e=>.inl e.1⟩
def Uw (C:Ct)(S:Sp):List Stp:=Ls (Fe (Qx C.n S.gen) (Wy C S.gen)) (S.gen % 2).toNat (swB S (S.gen % 2))
theorem q5a (D:DM)(a:Stp)(l:List Stp):D.Jk (a::l)=(if D.says a=0 then (D.does a).Jk l else D.says a)/\D.Qy (a::l)=(if D.says a=0 then (D.does a).Qy l else D.does a):=⟨rfl,rfl⟩
theorem qti {D:DM}{A:List Stp}(slot:Nat)(e:LU)(h:D.Jk A=0):D.Jk (Ls A slot e)=(D.Qy A).Jk [.fl,.w slot e,.fl]/\D.Qy (Ls A slot e)=(D.Qy A).Qy [.fl,.w slot e,.fl]:=by
 unfold Ls;rw[q3y,q3z,AA h,AA h];exact⟨rfl,rfl⟩
theorem qp8 (D:DM)(a:Stp):D.Jk [a]=D.says a/\D.Qy [a]=D.does a:=by
 rw[(q5a D a []).1,(q5a D a []).2];constructor
 ·split
  ·rename_i h;exact h.symm
  ·rfl
 ·split<;>rfl
attribute [local go_sem ↓] q25
theorem qi5 {w:WD}{d pc o:Nat}{S0 Sc:NP}{D:DM}{C:Ct}(L:Vp w d S0 D)(H:Yu w pc o Sc C)(b7:∀k,S0 k->k≠pc/\¬Sc k)(hG:¬S0 1)(S:Sp)(a1:S.may=true)(Y:S.fine)(b3:S.Qa=(C.n:Int))(ht:Tab w){m:Nat}(g3:D.Y2 m)(hm:m<=800000) :
  Calls prog 24 #[.pointer (some ⟨d,0,none⟩),.agg S.vs.toArray,.pointer (some ⟨pc,o,none⟩)] w λe w'=>e=.returned (.bool (D.Uu (Uw C S)))/\Iy w w' d S0 (D.Qy (Uw C S)):=by
 have d6:=H.ok.1;have a0:=(Tq a1).1;have hg:Ad S.gen:=⟨a0.1,a0.2.1⟩;obtain⟨g,u⟩:∃g,S.gen=g:=⟨_,rfl⟩;rw[u] at hg;obtain⟨ar,B⟩:∃m,Qj C.n=m:=⟨_,rfl⟩;have g8:ar<=18:=by unfold Qj at B;omega
 obtain⟨t,d8⟩:∃t,(g % 2).toNat=t:=⟨_,rfl⟩;have f:g % 2=(t:Int):=by have:=hg.1;omega
 have i6:t<2:=by omega
 have i0:g.tmod 2=(t:Int):=by rw[Int.tmod_eq_emod_of_nonneg (by have:=hg.1;omega)];exact f
 obtain⟨a,ha⟩:∃a,Qx C.n g=a:=⟨_,rfl⟩;have i2:a<=40:=by
  rw[<-ha];unfold Qx;rw[B,d8];rcases (show t=0\/t=1 by omega) with e|e<;>rw[e]<;>omega
 obtain⟨sb,d7⟩:∃x,swB S (t:Int)=x:=⟨_,rfl⟩;have a4:Yk S (t:Int)=true:=by unfold Yk;rw[a1,Bool.true_and];exact AL ⟨by omega,by omega⟩
 have b9:=(qjm a4).1;obtain⟨W,hW⟩:∃W,Fe (Qx C.n S.gen) (Wy C S.gen)=W:=⟨_,rfl⟩;have b8:Uw C S=Ls W t sb:=by unfold Uw;rw[hW,u,f,d7,<-f,d8]
 have e9:W.length=ar:=by rw[<-hW,qi0,q3l,B]
 have f0:∀j,j<ar->W.take (j+1)=W.take j++[.w (a+j) (Zk (U5 C.n g j) (C.body (j:Int)))]:=λj hj=>by
  rw[<-hW,qt8 _ _ (by rw[q3l,B];exact hj),qjt _ _ (by rw[B];exact hj),u,ha]
 have a2:∀j,j<ar->Xb ⟨2,((a+j:Nat):Int),0,0,g⟩ (C.body (j:Int))=0/\Xi ⟨2,((a+j:Nat):Int),0,0,g⟩ (C.body (j:Int))=Zk (U5 C.n g j) (C.body (j:Int)):=λj hj=>by
  have f4:=qov d6.1 d6.2 hg (i:=j) (by rw[B];exact hj);have f1:=Ct.Uk (C:=C) (i:=j) (by rw[B];exact hj);have f9:U5 C.n g j=⟨2,((a+j:Nat):Int),0,0,g⟩:=by unfold U5;rw[ha]
  rw[<-f9];unfold Xb Xi;rw[AA f4,AA f4,AA (by rw[f1];exact AE _),AA (by rw[f1];exact AE _)];exact⟨rfl,rfl⟩
 have hA:=qg0 S C.n b3 d6.2 ⟨by rw[u];have:=hg.1;omega,by rw[u];have:=hg.2;omega⟩;rw[u,ha,B] at hA;have HA:=HI hA;have HS:=HI b8;have e2:=HI e9;have f8:=HI f0;have d2:=HI a2;have i1:=HI f;have e5:=HI d7;have e7:=HI b9;have g7:=HI a4;have M:=HI Y;have b0:=HI b7;have f7:=HI hG;have X1:=SB.new w S 61;have b1:Below w.1.size w (w.alloc (.cells S.vs.toArray 61)):=Ql;have O:=L.tight.below b1;have H1:=H.below b1;have t1:=ht.below b1 ht.1;have i3:=H.lt;have i7:=ht.1;clear hA b8 hW e9 f0 a2 a0 f d7 b9 a4 Y ha b3 b7 hG a1 d8 hg L ht H;have f5:=X1.ld;go_enter func24,ntmps24
 go_wp2_with fail
 generalize w.alloc (.cells S.vs.toArray 61)=w1 at b1 O H1 t1 X1 f5 ⊢;refine (HA.out w1).mono ?_;rintro e w2 ⟨rfl,b2⟩;have L2:=O.below b2;have H2:=H1.below b2;have t2:=t1.below b2 t1.1;have X2:=X1.below b2 X1.lt;have B2:=b1.trans (b2.mono b1.size);have g4:w.1.size<w2.1.size:=X2.lt;clear f5 O H1 t1 X1 b1 b2;have L0:=L2.dsk;have a3:∀wr,Turn (λk=>S0 k/\k<w.1.size) w2 wr->SB wr w.1.size S/\Yu wr pc o Sc C/\Tab wr:=λwr T=>
  ⟨X2.block (T.block _ g4 (λh=>by have:=h.2;omega)),H2.keep (T.block pc (by omega) λh=>(b0.out pc h.1).1 rfl) (λk hk hs=>T.block k hk λh=>(b0.out k h.1).2 hs),t2.turned T λh=>f7.out h.1⟩
 have e6:=HI a3;clear a3 X2 H2 t2 L2;go_wp2_with fail
 go_loopw [9,10,11,21] (λ_ _ _ i wr=>∃j:Nat,j<=ar/\i=.int .i64 (j:Int)/\D.Jk (W.take j)=0/\Iy w2 wr d (λk=>S0 k/\k<w.1.size) (D.Qy (W.take j))) (λ_ _ _ i _=>ar-(intOf i).toNat)
 case atStart=>exact⟨0,by omega,rfl,rfl,L0⟩
 case round=>
  clear L0;obtain⟨j,hj,rfl,hE,O⟩:=hrel;have K:=q6u (W.take j) g3;have g9:(W.take j).length<=18:=by rw[AR,e2.out];omega
  obtain⟨D1,d4⟩:∃D1,D.Qy (W.take j)=D1:=⟨_,rfl⟩;rw[d4] at O K;have c9:=HI d4;have HE:=HI hE;obtain⟨X3,H3,t3⟩:=e6.out wr O.turn;clear d4 hE;by_cases f6:j<ar
  ·have e3:(j:Int)<(ar:Int):=by omega
   have e4:=HI (f8.out j f6);obtain⟨s1,s2⟩:=d2.out j f6;obtain⟨x,hx⟩:∃x,Zk (U5 C.n g j) (C.body (j:Int))=x:=⟨_,rfl⟩;rw[hx] at s2;obtain⟨s,hs⟩:∃s,a+j=s:=⟨_,rfl⟩;rw[hs] at s1 s2;have i4:(a:Int)+(j:Int)=(s:Int):=by omega
   have i5:s<=100:=by omega
   have I:=HI (show D.Jk (W.take (j+1))=D1.says (.w s x) by rw[e4.out,qac,AA HE.out,c9.out,hx,hs]);have y:=HI (show D.Qy (W.take (j+1))=D1.does (.w s x) by rw[e4.out,qad,AA HE.out,c9.out,hx,hs]);have S1:=HI s1;have S2:=HI s2;have q0:=X3.c0;rw[u] at q0;obtain⟨E,e8⟩:∃E,D1.says (.w s x)=E:=⟨_,rfl⟩;have a7:=HI e8;clear e8 hx hs s1 s2;by_cases h0:E=0
   ·have nb:(E != 0)=false:=by simpa using h0
    have H0:=HI h0;clear h0;go_wp2_with (first
     |(go_at_call 38;refine (q6v _ g wr).mono ?_;rintro e w4 ⟨rfl,Q⟩;have H4:=H3.below Q;have t4:=t3.below Q t3.1)
     |(go_at_call 39;refine (qfn H4 (j:Int)).mono ?_;rintro e w5 ⟨V,n5,c5,rfl,s5,R,_⟩;have t5:=t4.below R t4.1)
     |(go_at_call 37;refine (q5p ⟨2,(s:Int),0,0,g⟩ V n5 c5 _ w5 s5 t5).mono ?_;rw[S1.out,S2.out];rintro e w6 ⟨A6,n6,c6,rfl,a6,g0,b6⟩;have L6:=O.below (Q.trans ((R.mono Q.size).trans (b6.mono (AZ Q.size R.size)))))
     |(go_at_call 33;refine (q2o L6 K (by omega) s _ rfl A6 n6 c6 x a6.sl).mono ?_;rw[a7.out];rintro e w7 ⟨rfl,L7⟩)
     |fail)
    exact⟨⟨j+1,by omega,by go_num,I.out.trans (a7.out.trans H0.out),by rw[y.out];exact L7⟩,by simp[intOf];omega⟩
   ·have nb:(E != 0)=true:=by simpa using h0
    have J:D.Jk (W.take (j+1))≠0:=λh=>h0 (a7.out.symm.trans (I.out.symm.trans h))
    have X:Uw C S=W.take (j+1)++(W.drop (j+1)++.fl::[.w t sb,.fl]):=by rw[HS.out];unfold Ls;rw[<-AM,AV]
    obtain⟨F,G⟩:=q68 (l':=W.drop (j+1)++.fl::[.w t sb,.fl]) J;have R1:=HI (show D.Uu (Uw C S)=false by unfold DM.Uu;rw[X,F];exact AH J);have R2:=HI (show D.Qy (Uw C S)=D1.does (.w s x) by rw[X,G,y.out]);clear X F G J h0;go_wp2_with (first
     |(go_at_call 38;refine (q6v _ g wr).mono ?_;rintro e w4 ⟨rfl,Q⟩;have H4:=H3.below Q;have t4:=t3.below Q t3.1)
     |(go_at_call 39;refine (qfn H4 (j:Int)).mono ?_;rintro e w5 ⟨V,n5,c5,rfl,s5,R,_⟩;have t5:=t4.below R t4.1)
     |(go_at_call 37;refine (q5p ⟨2,(s:Int),0,0,g⟩ V n5 c5 _ w5 s5 t5).mono ?_;rw[S1.out,S2.out];rintro e w6 ⟨A6,n6,c6,rfl,a6,g0,b6⟩;have L6:=O.below (Q.trans ((R.mono Q.size).trans (b6.mono (AZ Q.size R.size)))))
     |(go_at_call 33;refine (q2o L6 K (by omega) s _ rfl A6 n6 c6 x a6.sl).mono ?_;rw[a7.out];rintro e w7 ⟨rfl,L7⟩)
     |fail)
    go_ret;exact⟨by rw[R1.out];rfl,by rw[R2.out];exact L7.from B2⟩
  ·have g1:j=ar:=by omega
   subst g1;have Z:W.take j=W:=AN (by rw[e2.out];exact AE _);have d5:=HE.out;have d3:=c9.out;rw[Z] at d5 d3;obtain⟨F,G⟩:=qti (D:=D) (A:=W) t sb d5;rw[d3,<-HS.out] at F G;have e3:¬(j:Int)<(j:Int):=by omega
   have a9:=q6t K .fl;obtain⟨E1,I⟩:∃E,D1.says .fl=E:=⟨_,rfl⟩;obtain⟨D2,y⟩:∃E,D1.does .fl=E:=⟨_,rfl⟩;rw[y] at a9;rw[(q5a _ _ _).1,I,y] at F;rw[(q5a _ _ _).2,I,y] at G;have d1:=HI I;have d0:=HI y;clear I y d5 d3 Z;by_cases h1:E1=0
   ·have g5:(E1 != 0)=false:=by simpa using h1
    rw[AA h1] at F G;have f3:=q6t a9 (.w t sb);obtain⟨E2,a8⟩:∃E,D2.says (.w t sb)=E:=⟨_,rfl⟩;obtain⟨D3,U⟩:∃E,D2.does (.w t sb)=E:=⟨_,rfl⟩;rw[U] at f3;rw[(q5a _ _ _).1,a8,U] at F;rw[(q5a _ _ _).2,a8,U] at G;have e1:=HI a8;have e0:=HI U;clear a8 U h1;have q0:=X3.c0;rw[u] at q0;have f2:=HI (λ(w':WD) (l':Iy w2 w' d (λk=>S0 k/\k<w.1.size) D2)=>e6.out w' l'.turn);by_cases h2:E2=0
    ·rw[AA h2,(qp8 _ _).1] at F;rw[AA h2,(qp8 _ _).2] at G;have g6:(E2==0)=true:=by simpa using h2
     have R1:=HI (show D.Uu (Uw C S)=decide (D3.says .fl=0) by unfold DM.Uu;rw[F]);have R2:=HI G;clear F G h2;go_wp2_with (first
      |(go_at_call 34;refine (q3n O K (by omega)).mono ?_;rw[d1.out,d0.out];rintro e w4 ⟨rfl,L4⟩;obtain⟨X4,H4,t4⟩:=f2.out w4 L4;have d9:=X4.c0;rw[u] at d9;have g2:=X4.ld)
      |(go_at_call 40;refine (q7k S (t:Int) M.out w4 t4).mono ?_;rw[e7.out,e5.out];rintro e w5 ⟨A5,n5,c5,rfl,a5,_,R⟩;have L5:=L4.below R)
      |(go_at_call 33;refine (q2o L5 a9 (by omega) t _ rfl A5 n5 c5 sb a5.sl).mono ?_;rw[e1.out,e0.out];rintro e w6 ⟨rfl,L6⟩)
      |(go_at_call 34;have hh:=L6;refine (q3n L6 f3 (by omega)).mono ?_;rintro e w7 ⟨rfl,L7⟩)
      |fail)
     go_ret;exact⟨by rw[R1.out];rfl,by rw[R2.out];exact L7.from B2⟩
    ·rw[AB h2] at F G;have g6:(E2==0)=false:=by simpa using h2
     have R1:=HI (show D.Uu (Uw C S)=false by unfold DM.Uu;rw[F];exact AH h2);have R2:=HI G;clear F G h2;go_wp2_with (first
      |(go_at_call 34;refine (q3n O K (by omega)).mono ?_;rw[d1.out,d0.out];rintro e w4 ⟨rfl,L4⟩;obtain⟨X4,H4,t4⟩:=f2.out w4 L4;have d9:=X4.c0;rw[u] at d9;have g2:=X4.ld)
      |(go_at_call 40;refine (q7k S (t:Int) M.out w4 t4).mono ?_;rw[e7.out,e5.out];rintro e w5 ⟨A5,n5,c5,rfl,a5,_,R⟩;have L5:=L4.below R)
      |(go_at_call 33;refine (q2o L5 a9 (by omega) t _ rfl A5 n5 c5 sb a5.sl).mono ?_;rw[e1.out,e0.out];rintro e w6 ⟨rfl,L6⟩)
      |fail)
     go_ret;exact⟨by rw[R1.out];rfl,by rw[R2.out];exact L6.from B2⟩
   ·have g5:(E1 != 0)=true:=by simpa using h1
    rw[AB h1] at F G;have R1:=HI (show D.Uu (Uw C S)=false by unfold DM.Uu;rw[F];exact AH h1);have R2:=HI G;clear F G h1;go_wp2_with (first
     |(go_at_call 34;refine (q3n O K (by omega)).mono ?_;rw[d1.out,d0.out];rintro e w4 ⟨rfl,L4⟩)
     |fail)
    go_ret;exact⟨by rw[R1.out];rfl,by rw[R2.out];exact L4.from B2⟩
end
theorem qjz {l:LU}{slot:Int}(h:Xg l slot=true):(Gn l slot).may=true:=by
 rw[(qjq h).1];unfold Xg at h;rw[BN,BN] at h;have:=h.2.1;unfold Yk at this;rw[BN] at this;exact this.1
theorem qyl {a b:LU}(h:Ey a b=0):(snS a b).may=true:=by
 by_cases h1:Xg a 0=false/\Xg b 1=false
 ·rw[(Qcg h1.1 h1.2).2.2] at h
  cases h
 ·by_cases h2:(Gn a 0).gen<(Gn b 1).gen
  ·rw[(Qbo h1 h2).1]
   cases f:Xg b 1
   ·cases e:Xg a 0
    ·exact absurd ⟨e,f⟩ h1
    ·have g:=(Tq (qjz e)).1.1;rw[(qi1 f).1] at h2;have:Sp.zero.gen=0:=rfl;omega
   ·exact qjz f
  ·rw[(Qbn h1 h2).1]
   cases e:Xg a 0
   ·cases f:Xg b 1
    ·exact absurd ⟨e,f⟩ h1
    ·have g:=(Tq (qjz f)).1.1;rw[(qi1 e).1] at h2;have:Sp.zero.gen=0:=rfl;omega
   ·exact qjz e
theorem qk0 {S:Sp}(h:S.may=true):S.fine:=λk e=>by
 have:=q6o h k e;unfold maxLen;omega
theorem qtj {n:Nat}{f:List (LU)}(h:J8 (n:Int) f=0):(32<=n/\n<=2048)/\f.length=Qj n/\∀i,i<Qj n->q4o n (2+2*Qj n) i (nth f i):=by
 unfold J8 at h;split at h
 ·cases h
 ·rename_i h1;have h1:=Decidable.of_not_not h1;rw[AJ] at h;split at h
  ·cases h
  ·rename_i h2;refine⟨by omega,?_,?_⟩
   ·exact Classical.byContradiction λe=>h2 (.inl e)
   ·exact Classical.byContradiction λe=>h2 (.inr e)
theorem qi6 (n:Nat)(e:List (LU)):(Vy n e).n=n:=qa7 _ _ _
theorem qym {n:Nat}{f:List (LU)}(h:J8 (n:Int) f=0):(Vy n f).res:=by
 obtain⟨h1,h2,A⟩:=qtj h;intro a y u;rw[qi6] at y;have D:a<2+2*Qj n:=by unfold Ct.first at u;rw[qi6] at u;exact u
 have e:nm (Vy n f).now a=nm (Yx n f (Qj n)).now a:=rfl;rw[e,qa8 n f (Qj n) a y];split
 ·rename_i E;have hi:a / 118<Qj n:=by omega
  have g:=(A _ hi).2 (a % 118) (Nat.mod_lt _ (by omega));unfold Yq at g;have g:=of_decide_eq_false g;exact Classical.byContradiction λB=>g ⟨B,.inl (by omega)⟩
 ·rfl
