/- The code's pool, plain facts: new blocks as they are kept (of generation 0), and dated -/
import Derived.Test.YtnnbaihfboacoaaGreatDoorEt11
import Derived.Test.YtnnbaihfboacoaaGreatDoorEt15
import Derived.Test.YtnnbaihfboacoaaGreatDoorEt16
import Derived.Lib.SliceRun
namespace Go.Proofs.YtnnbaihfboacoaaGreatDoor
open Go Go.RowKit Go.Proofs
set_option maxHeartbeats 8000000
set_option maxRecDepth 100000
def Es (g:Int):Prop:=0<=g/\g<=1099511627775
theorem qoj {g:Int}(h:Kv g):Es g:=⟨Int.le_trans (by omega) h.1,h.2⟩
theorem q2f:Es 0:=⟨by omega,by omega⟩
def Bk.hd (b:Bk)(a:Nat)(g:Int):Hd:=match b with
 |.node N=>N.head (a:Int) g
 |.bytes k l=>Qb0 k a l.length g
def Bk.body (b:Bk):List UInt8:=match b with
 |.node N=>N.body
 |.bytes _ l=>l
structure Bk.good (b:Bk):Prop where
 hd:∀(a:Nat) (g:Int),a<=2047->Es g->(b.hd a g).ok=true
 body:b.body.length<=236
 out:∀(a:Nat) (g:Int),a<=2047->Es g->b.out a g=Zr (b.hd a g) b.body
theorem Bk.good.len {b:Bk}(h:b.good){a:Nat}{g:Int}(ha:a<=2047)(hg:Es g):(b.out a g).length=256:=by
 rw[h.out a g ha hg];exact q76 _ _ h.body
theorem Bk.good.fine {b:Bk}(h:b.good):b.fine:=λ_ _ f e=>h.len f (qoj e)
theorem Bk.good.opens {b:Bk}(h:b.good){a:Nat}{g:Int}(ha:a<=2047)(hg:Es g):Yq (b.out a g)=b.hd a g/\Un (b.out a g)=b.body++List.replicate (236-b.body.length) 0/\Na (b.out a g)=0:=by
 rw[h.out a g ha hg];exact q7a _ _ (h.hd a g ha hg) h.body
def Ia (k:Int):Option Nat:=if k=5 then some 128 else if k=6 then some 236 else none
theorem qlx {k:Int}{m:Nat}(h:Ia k=some m):(k=5\/k=6)/\m<=236:=by
 unfold Ia at h;split at h
 ·cases h;exact⟨.inl (by assumption),by omega⟩
 ·split at h
  ·cases h;exact⟨.inr (by assumption),by omega⟩
  ·cases h
def Pl.live (P:Pl)(a:Nat):Option Bk:=if P.C.get (a:Int)=0 then none else P.L a
structure DM.Ya (D:DM)(m:Nat):Prop where
 steps:D.steps<=m
 rows:∀s,(D.Zp s).length<=m
theorem DM.Ya.mono {D:DM}{m m':Nat}(h:D.Ya m)(hm:m<=m'):D.Ya m':=⟨Nat.le_trans h.steps hm,λs=>Nat.le_trans (h.rows s) hm⟩
theorem qjk (n:Nat):(DM.mk0 n).Ya 0:=⟨Nat.le_refl _,λ_=>Nat.le_refl _⟩
theorem q5g {D:DM}{m:Nat}(h:D.Ya m):D.stepD.Ya (m+1):=by
 refine⟨?_,λs=>Nat.le_trans (h.rows s) (by omega)⟩;have:=h.steps;show (if D.stop then D.steps else D.steps+1)<=m+1;split<;>omega
theorem qly {D:DM}{m:Nat}(h:D.Ya m)(s:Int)(x:List UInt8):(D.Yz s x).Ya (m+1):=by
 unfold DM.Yz;split
 ·exact h.mono (by omega)
 ·split
  ·exact q5g h
  ·refine⟨(q5g h).steps,λt=>?_⟩;show (upd D.Zp s.toNat (D.Zp s.toNat++[x]) t).length<=m+1;unfold upd;split
   ·have:=h.rows s.toNat;rw[List.length_append];simp;omega
   ·exact Nat.le_trans (h.rows t) (by omega)
theorem qlz {D:DM}{m:Nat}(h:D.Ya m):D.Wl.Ya (m+1):=by
 unfold DM.Wl;split
 ·exact q5g h
 ·exact⟨(q5g h).steps,λ_=>Nat.zero_le _⟩
theorem q6n {D:DM}{m:Nat}(h:D.Ya m)(a:Stp):(D.does a).Ya (m+1):=by
 cases a with
 |w s x=>exact qly h s x
 |fl=>exact qlz h
theorem q3c:∀(l:List Stp) {D:DM} {m:Nat},D.Ya m->(D.Qk l).Ya (m+l.length)
 |[],_,_,h=>h
 |a::l,D,m,h=>by
  show (if D.says a=0 then (D.does a).Qk l else D.does a).Ya (m+(l.length+1));split
  ·exact (q3c l (q6n h a)).mono (by omega)
  ·exact (q6n h a).mono (by omega)
theorem qv8 (D:DM)(a:Stp):(D.does a).n=D.n:=by
 cases a with
 |w s x=>show (D.Yz s x).n=D.n;unfold DM.Yz;split;rfl;split<;>rfl
 |fl=>show D.Wl.n=D.n;unfold DM.Wl;split<;>rfl
theorem qw6:∀(l:List Stp) (D:DM),(D.Qk l).n=D.n
 |[],_=>rfl
 |a::l,D=>by
  show (if D.says a=0 then (D.does a).Qk l else D.does a).n=D.n;split
  ·rw[qw6 l,qv8]
  ·exact qv8 D a
theorem q6o (l:List Stp)(a:Stp)(D:DM):D.Zy (l++[a])=if D.Zy l=0 then (D.Qk l).says a else D.Zy l:=by
 rw[q2v];split
 ·show (if (D.Qk l).says a=0 then (0:Int) else (D.Qk l).says a)=_;split
  ·rename_i h;exact h.symm
  ·rfl
 ·rfl
theorem q6p (l:List Stp)(a:Stp)(D:DM):D.Qk (l++[a])=if D.Zy l=0 then (D.Qk l).does a else D.Qk l:=by
 rw[q2w];split
 ·show (if (D.Qk l).says a=0 then (D.Qk l).does a else (D.Qk l).does a)=_;split<;>rfl
 ·rfl
theorem q2z {l l':List Stp}{D:DM}(h:D.Zy l≠0):D.Zy (l++l')=D.Zy l/\D.Qk (l++l')=D.Qk l:=by
 rw[q2v,q2w,if_neg h,if_neg h];exact⟨rfl,rfl⟩
section
open Go.ChangeMaps (setBlock)
structure PH (cur:Array Value)(d m:Nat)(S:Sp):Prop where
 size:cur.size=41
 disk:cur[0]?=some (.pointer (some ⟨d,0,none⟩))
 sup:∀(j:Nat) x,S.vs[j]?=some x->cur[1+j]?=some x
 fresh:cur[40]?=some (.map (some m))
structure PL (w:World)(p d m:Nat)(cur:Array Value)(l:List MapEntry)(clock:Nat)(v:Nat->Value)(Sc S T:Nat->Prop)(P:Pl):Prop where
 me:w.heap[p]?=some (.cells cur 103 (0,0))
 ph:PH cur d m P.S
 ct:Yt w p 36 Sc P.C
 map:w.heap[m]?=some (.map l.toArray clock)
 ents:Vy l clock
 look:∀a:Nat,Zf a l=(P.live a).map λ_=>v a
 keys:∀e∈l,∃a:Nat,a<P.C.n/\kI e=a
 row:∀a b,P.live a=some b->∃g c,v a=.slice (some ⟨g,0,none⟩) 256 c/\Sl w (some ⟨g,0,none⟩) 256 c (b.out a 0)/\¬T g
 good:∀a b,P.L a=some b->b.good
 Xu:S p/\S m/\(∀k,Sc k->S k)
 ne:∀k,Sc k->k≠p/\k≠m
 sub:∀k,S k->T k
 ok:P.ok
 D8:P.S.fine
def Pool (w:World)(p d:Nat)(S T:Nat->Prop)(P:Pl):Prop:=∃m cur l clock v Sc,PL w p d m cur l clock v Sc S T P
section
variable {w w':World}{p d m clock:Nat}{cur:Array Value}{l:List MapEntry}{v:Nat->Value}{Sc S T:Nat->Prop}{P:Pl}
theorem PL.p_m (L:PL w p d m cur l clock v Sc S T P):p≠m:=λe=>by
 have h:=L.me;rw[e,L.map] at h;cases h
theorem PL.Ie (L:PL w p d m cur l clock v Sc S T P):p<w.1.size:=Wi L.me
theorem PL.mlt (L:PL w p d m cur l clock v Sc S T P):m<w.1.size:=Wi L.map
theorem PL.keep (L:PL w p d m cur l clock v Sc S T P)(hk:∀k,k<w.1.size->S k\/¬T k->w'.1[k]?=w.1[k]?)(hz:w.1.size<=w'.1.size):PL w' p d m cur l clock v Sc S T P:=by
 have D:=hk p L.Ie (.inl L.Xu.1);have G:=hk m L.mlt (.inl L.Xu.2.1);refine⟨D.trans L.me,L.ph,L.ct.keep D λk A y=>hk k A (.inl (L.Xu.2.2 k y)),G.trans L.map,L.ents,L.look,L.keys,λa b h=>?_,L.good,L.Xu,L.ne,L.sub,L.ok,L.D8⟩;obtain⟨g,c,e,y,E⟩:=L.row a b h;refine⟨g,c,e,?_,E⟩;exact stay_slice y hz λf=>hk g f (.inr E)
 where
 stay_slice {w w':World} {g n c:Nat} {x:List UInt8} (h:Sl w (some ⟨g,0,none⟩) n c x) (hz:w.1.size<=w'.1.size) (f:g<w.1.size->w'.1[g]?=w.1[g]?):Sl w' (some ⟨g,0,none⟩) n c x:=
  ⟨h.1,h.2.1,h.2.2.1,λj u H=>by
   obtain⟨I,e,B,F⟩:=h.2.2.2 j u H;injection e with e;subst e;exact⟨_,rfl,Nat.lt_of_lt_of_le B hz,(World.cell?_of_block (a:=(⟨g,0,none⟩:Addr).add j) (by rw[q0n];exact f B)).trans F⟩⟩
theorem PL.other (L:PL w p d m cur l clock v Sc S T P){S':Nat->Prop}(t:Turn S' w w')(hT:∀k,S' k->T k)(hS:∀k,S' k->¬S k):PL w' p d m cur l clock v Sc S T P:=
 L.keep (λk e h=>t.block k e λb=>h.elim (hS k b) λh2=>h2 (hT k b)) t.size
theorem PL.below (L:PL w p d m cur l clock v Sc S T P)(hb:Below w.1.size w w'):PL w' p d m cur l clock v Sc S T P:=L.keep (λk b _=>hb.block k b) hb.size
theorem PL.mono {S' T':Nat->Prop}(L:PL w p d m cur l clock v Sc S T P)(hS:∀k,k<w.1.size->S k->S' k)(hT:∀k,k<w.1.size->T' k->T k)(hST:∀k,S' k->T' k):PL w p d m cur l clock v (λk=>Sc k/\k<w.1.size) S' T' P:=
 ⟨L.me,L.ph,L.ct.shrink,L.map,L.ents,L.look,L.keys,λa b h=>by
  obtain⟨g,c,e,y,B⟩:=L.row a b h;have u:g<w.1.size:=by
   have h1:=y.len;obtain⟨E,A,D,_⟩:=y.2.2.2 0 (bv ((b.out a 0).getD 0 0)) (by rw[List.getElem?_map,List.getD_eq_getElem?_getD,List.getElem?_eq_getElem (by omega)];rfl);injection A with A;subst A;exact D
  exact⟨g,c,e,y,λh=>B (hT g u h)⟩,L.good,⟨hS p L.Ie L.Xu.1,hS m L.mlt L.Xu.2.1,λk f=>hS k f.2 (L.Xu.2.2 k f.1)⟩,λk f=>L.ne k f.1,hST,L.ok,L.D8⟩
theorem PL.c0 (L:PL w p d m cur l clock v Sc S T P):w.cell? ⟨p,0,none⟩=some (.pointer (some ⟨d,0,none⟩)):=Rj L.me L.ph.disk
theorem PL.c40 (L:PL w p d m cur l clock v Sc S T P):w.cell? ⟨p,40,none⟩=some (.map (some m)):=Rj L.me L.ph.fresh
theorem PL.sup (L:PL w p d m cur l clock v Sc S T P):w.rangeAt p 1 P.S.vs:=λj x b=>Rj L.me (L.ph.sup j x b)
theorem PL.fz (L:PL w p d m cur l clock v Sc S T P)(j:Nat):w.frozen? ⟨p,j,none⟩=false:=by unfold World.frozen?;rw[L.me];simp
theorem PL.there (L:PL w p d m cur l clock v Sc S T P){o n:Nat}(h:o+n<=41):w.there p o n:=λj b=>by
 refine⟨?_,L.fz _⟩;rw[cell_of_row _ _ _ _ _ _ L.me,Array.getElem?_eq_getElem (by rw[L.ph.size];omega)];rfl
theorem PL.Qbl (L:PL w p d m cur l clock v Sc S T P){C':Ct}(t:Turn Sc w w')(H:Yt w' p 36 Sc C')(hn:C'.n=P.C.n)(hlive:∀a:Nat,C'.get (a:Int)=0↔P.C.get (a:Int)=0)(hok:Pl.ok ⟨P.S,C',P.L⟩):PL w' p d m cur l clock v Sc S T ⟨P.S,C',P.L⟩:=by
 have y:=t.block p L.Ie λh=>(L.ne p h).1 rfl
 have hm:=t.block m L.mlt λh=>(L.ne m h).2 rfl
 have u:∀a,Pl.live ⟨P.S,C',P.L⟩ a=P.live a:=λa=>by
  unfold Pl.live;by_cases h:P.C.get (a:Int)=0
  ·rw[if_pos h,if_pos ((hlive a).2 h)]
  ·rw[if_neg h,if_neg λh2=>h ((hlive a).1 h2)]
 refine⟨y.trans L.me,L.ph,H,hm.trans L.map,L.ents,λa=>by rw[u a];exact L.look a,λe D=>by rw[hn];exact L.keys e D,λa b h=>?_,L.good,L.Xu,L.ne,L.sub,hok,L.D8⟩;rw[u a] at h;obtain⟨g,c,e,B,f⟩:=L.row a b h;exact⟨g,c,e,PL.keep.stay_slice B t.size λA=>t.block g A λh=>f (L.sub g (L.Xu.2.2 g h)),f⟩
end
theorem Pool.below {w w':World}{p d:Nat}{S T:Nat->Prop}{P:Pl}(h:Pool w p d S T P)(hb:Below w.1.size w w'):Pool w' p d S T P:=by
 obtain⟨m,cur,l,clock,v,Sc,L⟩:=h;exact⟨m,cur,l,clock,v,Sc,L.below hb⟩
theorem Pool.other {w w':World}{p d:Nat}{S T:Nat->Prop}{P:Pl}(h:Pool w p d S T P){S':Nat->Prop}(t:Turn S' w w')(hT:∀k,S' k->T k)(hS:∀k,S' k->¬S k):Pool w' p d S T P:=by
 obtain⟨m,cur,l,clock,v,Sc,L⟩:=h;exact⟨m,cur,l,clock,v,Sc,L.other t hT hS⟩
theorem Pool.mono {w:World}{p d:Nat}{S T S' T':Nat->Prop}{P:Pl}(h:Pool w p d S T P)(hS:∀k,k<w.1.size->S k->S' k)(hT:∀k,k<w.1.size->T' k->T k)(hST:∀k,S' k->T' k):Pool w p d S' T' P:=by
 obtain⟨m,cur,l,clock,v,Sc,L⟩:=h;exact⟨m,cur,l,clock,v,_,L.mono hS hT hST⟩
theorem Pool.ok {w:World}{p d:Nat}{S T:Nat->Prop}{P:Pl}(h:Pool w p d S T P):P.ok:=by
 obtain⟨m,cur,l,clock,v,Sc,L⟩:=h;exact L.ok
theorem Pool.lt {w:World}{p d:Nat}{S T:Nat->Prop}{P:Pl}(h:Pool w p d S T P):p<w.1.size:=by
 obtain⟨m,cur,l,clock,v,Sc,L⟩:=h;exact L.Ie
end
theorem qfs (S:Sp)(n:Nat)(H:S.Qb=(n:Int))(hn:n<=2048)(G:0<=S.gen/\S.gen<=1099511627776)(w:World) :
  Calls Tryz.prog 83 #[.agg S.vs.toArray] w λe w'=>e=.returned (.tuple #[.int .i64 (Qo n S.gen:Int),.int .i64 (Qe n:Int)])/\Below w.1.size w w':=by
 have A:=SB.new w S 98;have J:Below w.1.size w (w.alloc (.cells S.vs.toArray 98)):=Qm;have F:=A.c1;have I:=A.c0;rw[H] at F;obtain⟨g,b⟩:∃g,S.gen=g:=⟨_,rfl⟩;rw[b] at I G ⊢;obtain⟨Q,Y⟩:=G;obtain⟨f,hm⟩:∃m,Qe n=m:=⟨_,rfl⟩;have M:f<=18:=by unfold Qe at hm;omega
 obtain⟨t,E⟩:∃t,(g % 2).toNat=t:=⟨_,rfl⟩;have W:t<2:=by omega
 have U:g.tmod 2=(t:Int):=by rw[Int.tmod_eq_emod_of_nonneg (by omega)];omega
 obtain⟨u,y⟩:∃u,f*t=u:=⟨_,rfl⟩;have a1:u<=18:=by rw[<-y];rcases (show t=0\/t=1 by omega) with e|e<;>rw[e]<;>omega
 have K:(t:Int)*(f:Int)=(u:Int):=by rw[<-y,Int.mul_comm];exact (Int.natCast_mul f t).symm
 obtain⟨a,D⟩:∃a,2+u=a:=⟨_,rfl⟩;have O:(2:Int)+(u:Int)=(a:Int):=by omega
 have Z:a<=20:=by omega
 have B:=Lib.hid (show Qo n g=a by unfold Qo;rw[hm,E,y,D]);have X:=Lib.hid hm;rw[hm];clear hm E y D H b A;go_enter Tryz.func83,Tryz.ntmps83
 go_wp2_with fail
 generalize w.alloc (.cells S.vs.toArray 98)=R at J I F ⊢;refine (qcn (n:Int) n rfl (by omega) f X.out R).mono ?_;rintro e w2 ⟨rfl,rfl⟩;go_wp2;go_ret2;rw[B.out];exact⟨rfl,J⟩
theorem q43 {u:Array Oper}{f:List Oper}{o:Oper}{a:Act}{w:World}{Q:Exit->Act->World->Prop}(E:o.guard=none)(x y:Operand)(A:o.op=Op.store 150 x y)
  (b:Nat) (D:a.eval x=.pointer (some ⟨b,0,none⟩)) (h h0:Hd) (F:a.eval y=h.v) (H:HB w b h0) (I:b<w.1.size)
  (G:∀w',HB w' b h->(∀B,B<=b->Below B w w')->Turn (λk=>k=b) w w'->wpList Tryz.prog u Q f (a.put o.dst undef) w'):wpList Tryz.prog u Q (o::f) a w:=by
 refine wpList_store_mid E _ x y A b 0 h.vs.toArray D F H.there (by kernel_rfl) (by simp[Hd.vs,Value.oneCell']) ?_;have T:=Us (S:=λk=>k=b) rfl h.vs 0 w;refine G _ ?_ (λB J=>T.below (λx D=>by omega) (by omega)) T;obtain⟨t,H⟩:=H;have e:=q0o b t h.vs 0 w h0.vs H (by show 0+5<=5;omega);rw[q4g h0.vs h.vs rfl] at e;exact⟨t,e⟩
theorem q6q (a g:Int)(w:World):Calls Tryz.prog 85 #[.int .i64 a,.int .i64 g] w λe w'=>e=.returned (.agg #[.int .i64 2,.int .i64 a,.int .i64 0,.int .i64 0,.int .i64 g])/\Below w.1.size w w':=by
 have y:=HB.zero w 150;have u:Below w.1.size w (w.alloc (.cells #[.int .i64 0,.int .i64 0,.int .i64 0,.int .i64 0,.int .i64 0] 150)):=Qm;go_enter Tryz.func85,Tryz.ntmps85
 go_wp2_with (first
  |(refine Pz rfl _ _ rfl w.1.size rfl ⟨2,a,0,0,g⟩ _ rfl y (by simp) ?_;intro B f b A)
  |fail)
 refine bodyPost_ret (q2r Tryz.results85 rfl (q88 f)) rfl ?_;exact⟨rfl,u.trans (b _ (Nat.le_refl _))⟩
theorem Y9.below {w w':World}{d:Nat}{S:Nat->Prop}{D:DM}(L:Y9 w d S D)(hb:Below w.1.size w w'):Y9 w' d S D:=L.keep λk b _=>hb.block k b
theorem Y9.Qb {w:World}{d:Nat}{S:Nat->Prop}{D:DM}(L:Y9 w d S D):Go.Proofs.YtnnbaihfboacoaaGreatDoor.Qb D.n:=by
 obtain⟨b,e,l,clock,v,L⟩:=L;exact L.n32
theorem Y9.lt {w:World}{d:Nat}{S:Nat->Prop}{D:DM}(L:Y9 w d S D):d<w.1.size:=by
 obtain⟨b,e,l,clock,v,L⟩:=L;exact Wi L.me
theorem Y9.at_ {w:World}{d:Nat}{S:Nat->Prop}{D:DM}(L:Y9 w d S D):S d:=by
 obtain⟨b,e,l,clock,v,L⟩:=L;exact L.Xu.1
structure Df (w0 w:World)(d:Nat)(S:Nat->Prop)(D:DM):Prop where
 U8:Y9 w d (λk=>S k\/w0.heap.size<=k) D
 turn:Turn S w0 w
theorem Y9.dsk {w:World}{d:Nat}{S:Nat->Prop}{D:DM}(L:Y9 w d S D):Df w w d S D:=⟨L.mono λ_ _ h=>.inl h,Turn.refl _ _⟩
theorem Df.below {w0 w w':World}{d:Nat}{S:Nat->Prop}{D:DM}(L:Df w0 w d S D)(hb:Below w.1.size w w'):Df w0 w' d S D:=⟨L.U8.below hb,L.turn.trans (Qv hb) λ_ b=>.inl b⟩
theorem q1v {y w:World}{d:Nat}{S:Nat->Prop}{D:DM}(L:Df y w d S D){m:Nat}(f:D.Ya m)(hm:m<=900000)(s:Nat)(z:Int)(u:z=(s:Int))(A:Option Addr)(n c:Nat)(x:List UInt8)(h:Sl w A n c x) :
  Calls Tryz.prog 80 #[.pointer (some ⟨d,0,none⟩),.int .i64 z,.slice A n c] w λe w'=>e=.returned (.int .i64 (D.says (.w s x)))/\Df y w' d S (D.does (.w s x)):=by
 subst u;refine (qrr L.U8 (s:Int) A n c x h (by have:=f.steps;omega) λk=>by have:=f.rows k;omega).mono ?_;rintro e w' ⟨rfl,R,T⟩;have u:=L.turn.size;exact⟨rfl,R.mono λk _ b=>b.elim id λh=>.inr (by omega),L.turn.trans T λk b=>b⟩
theorem q3k {f w:World}{d:Nat}{S:Nat->Prop}{D:DM}(L:Df f w d S D){m:Nat}(b:D.Ya m)(hm:m<=900000) :
  Calls Tryz.prog 81 #[.pointer (some ⟨d,0,none⟩)] w λe w'=>e=.returned (.int .i64 (D.says .fl))/\Df f w' d S (D.does .fl):=by
 refine (qnm L.U8 (by have:=b.steps;omega) λk=>by have:=b.rows k;omega).mono ?_;rintro e w' ⟨rfl,R,T⟩;exact⟨rfl,R,L.turn.trans T λk u=>u⟩
def DM.Xp (D:DM)(l:List Stp):Bool:=decide (D.Zy l=0)
theorem qm0 {w:World}{d:Nat}{S:Nat->Prop}{D:DM}(L:Y9 w d S D){m:Nat}(ht:D.Ya m)(hm:m<=800000) :
  Calls Tryz.prog 48 #[.pointer (some ⟨d,0,none⟩)] w λe w'=>e=.returned (.bool (D.Xp (Vf D.n)))/\Df w w' d S (D.Qk (Vf D.n)):=by
 have L0:=L.dsk;have hA:Vf D.n=[.w 0 q13,.w 1 q13]++[.fl]:=rfl;have hw:∀j,j<2->([.w 0 q13,.w 1 q13]:List Stp).take (j+1)=([.w 0 q13,.w 1 q13]:List Stp).take j++[.w j q13]:=λj hj=>by
  rcases (show j=0\/j=1 by omega) with e|e<;>subst e<;>rfl
 obtain⟨u,J⟩:∃W:List Stp,[.w 0 q13,.w 1 q13]=W:=⟨_,rfl⟩;rw[J] at hA hw;have M:u.length=2:=by rw[<-J];rfl
 have HA:=Lib.hid hA;have HW:=Lib.hid hw;have HL:=Lib.hid M;clear hA hw J M;go_enter Tryz.func48,Tryz.ntmps48
 go_wp2_with fail
 go_loopw [3,4] (λ_ i wr=>∃j:Nat,j<=2/\i=.int .i64 (j:Int)/\D.Zy (u.take j)=0/\Df w wr d S (D.Qk (u.take j))) (λ_ i _=>2-(intOf i).toNat)
 case atStart=>exact⟨0,by omega,rfl,rfl,L0⟩
 case round=>
  clear L0;obtain⟨j,hj,rfl,hE,Y⟩:=hrel;have G:=q3c (u.take j) ht;have a6:(u.take j).length<=2:=by rw[List.length_take];omega
  obtain⟨H,K⟩:∃H,D.Qk (u.take j)=H:=⟨_,rfl⟩;rw[K] at Y G;have B:=Lib.hid K;have Z:=Lib.hid hE;clear K hE;by_cases a1:j<2
  ·have e3:(j:Int)<2:=by omega
   have Q:=Lib.hid (HW.out j a1);have X:=Lib.hid (show D.Zy (u.take (j+1))=H.says (.w j q13) by rw[Q.out,q6o,if_pos Z.out,B.out]);have O:=Lib.hid (show D.Qk (u.take (j+1))=H.does (.w j q13) by rw[Q.out,q6p,if_pos Z.out,B.out]);obtain⟨E,R⟩:∃E,H.says (.w j q13)=E:=⟨_,rfl⟩;have F:=Lib.hid R;clear R;by_cases h0:E=0
   ·have nb:(E != 0)=false:=by simpa using h0
    have H0:=Lib.hid h0;clear h0;go_wp2_with (first
     |(at_make;refine q77 _ Gy rfl _ _ rfl _ _ 256 rfl rfl (by omega) ?_;intro w3 A I;have L3:=Y.below I)
     |(go_at_call 80;refine (q1v L3 G (by omega) j _ rfl _ 256 256 q13 A.sl).mono ?_;rw[F.out];rintro e w4 ⟨rfl,U⟩)
     |fail)
    exact⟨⟨j+1,by omega,by go_num,X.out.trans (F.out.trans H0.out),by rw[O.out];exact U⟩,by simp[intOf];omega⟩
   ·have nb:(E != 0)=true:=by simpa using h0
    have b:D.Zy (u.take (j+1))≠0:=λh=>h0 (F.out.symm.trans (X.out.symm.trans h))
    have y:Vf D.n=u.take (j+1)++(u.drop (j+1)++[.fl]):=by rw[HA.out,<-List.append_assoc,List.take_append_drop]
    obtain⟨r1,r2⟩:=q2z (l':=u.drop (j+1)++[.fl]) b;have R1:=Lib.hid (show D.Xp (Vf D.n)=false by unfold DM.Xp;rw[y,r1];exact decide_eq_false b);have R2:=Lib.hid (show D.Qk (Vf D.n)=H.does (.w j q13) by rw[y,r2,O.out]);clear y r1 r2 b h0;go_wp2_with (first
     |(at_make;refine q77 _ Gy rfl _ _ rfl _ _ 256 rfl rfl (by omega) ?_;intro w3 A I;have L3:=Y.below I)
     |(go_at_call 80;refine (q1v L3 G (by omega) j _ rfl _ 256 256 q13 A.sl).mono ?_;rw[F.out];rintro e w4 ⟨rfl,U⟩)
     |fail)
    go_ret;exact⟨by rw[R1.out];rfl,by rw[R2.out];exact U⟩
  ·have a2:j=2:=by omega
   subst a2;have f:u.take 2=u:=List.take_of_length_le (by rw[HL.out];exact Nat.le_refl _);have R1:=Lib.hid (show D.Xp (Vf D.n)=decide (H.says .fl=0) by unfold DM.Xp;rw[HA.out,q6o,<-f,if_pos Z.out,B.out]);have R2:=Lib.hid (show D.Qk (Vf D.n)=H.does .fl by rw[HA.out,q6p,<-f,if_pos Z.out,B.out]);clear f;go_wp2_with (first
    |(go_at_call 81;refine (q3k Y G (by omega)).mono ?_;rintro e w4 ⟨rfl,U⟩)
    |fail)
   go_ret;exact⟨by rw[R1.out];rfl,by rw[R2.out];exact U⟩
section
theorem Tab.turned {w w':World}{S:Nat->Prop}(h:Tab w)(T:Turn S w w')(hS:¬S 1):Tab w':=
 ⟨Nat.lt_of_lt_of_le h.1 T.size,λk b=>(World.cell?_of_block (a:=⟨1,k,none⟩) (T.block _ h.1 hS)).trans (h.2 k b)⟩
theorem Y9.tight {w:World}{d:Nat}{S:Nat->Prop}{D:DM}(L:Y9 w d S D):Y9 w d (λk=>S k/\k<w.1.size) D:=L.mono λ_ h1 h2=>⟨h2,h1⟩
theorem Df.from {w0 w1 w:World}{d:Nat}{S:Nat->Prop}{D:DM}(L:Df w1 w d (λk=>S k/\k<w0.1.size) D)(b:Below w0.1.size w0 w1):Df w0 w d S D:=
 ⟨L.U8.mono λk _ e=>e.elim (λh=>.inl h.1) λh=>.inr (by have:=b.size;omega),(Qv b |>.mono (S':=S) λ_ h=>h).trans L.turn λ_ e=>.inl e.1⟩
def Vp (C:Ct)(S:Sp):List Stp:=Uo (Dx (Qo C.n S.gen) (Y4 C S.gen)) (S.gen % 2).toNat (swB S (S.gen % 2))
theorem q5h (D:DM)(a:Stp)(l:List Stp):D.Zy (a::l)=(if D.says a=0 then (D.does a).Zy l else D.says a)/\D.Qk (a::l)=(if D.says a=0 then (D.does a).Qk l else D.does a):=⟨rfl,rfl⟩
theorem qst {D:DM}{A:List Stp}(slot:Nat)(b:List UInt8)(h:D.Zy A=0):D.Zy (Uo A slot b)=(D.Qk A).Zy [.fl,.w slot b,.fl]/\D.Qk (Uo A slot b)=(D.Qk A).Qk [.fl,.w slot b,.fl]:=by
 unfold Uo;rw[q2v,q2w,if_pos h,if_pos h];exact⟨rfl,rfl⟩
theorem qok (D:DM)(a:Stp):D.Zy [a]=D.says a/\D.Qk [a]=D.does a:=by
 rw[(q5h D a []).1,(q5h D a []).2];constructor
 ·split
  ·rename_i h;exact h.symm
  ·rfl
 ·split<;>rfl
attribute [local go_sem ↓] q1n
theorem qa0 {w:World}{d pc o:Nat}{S0 Sc:Nat->Prop}{D:DM}{C:Ct}(L:Y9 w d S0 D)(H:Yt w pc o Sc C)(c8:∀k,S0 k->k≠pc/\¬Sc k)(hG:¬S0 1)(S:Sp)(a1:S.may=true)(Q:S.fine)(c9:S.Qb=(C.n:Int))(ht:Tab w){m:Nat}(g9:D.Ya m)(hm:m<=800000) :
  Calls Tryz.prog 51 #[.pointer (some ⟨d,0,none⟩),.agg S.vs.toArray,.pointer (some ⟨pc,o,none⟩)] w λe w'=>e=.returned (.bool (D.Xp (Vp C S)))/\Df w w' d S0 (D.Qk (Vp C S)):=by
 have d7:=H.ok.1;have U:=(q12 a1).1;have hg:Kv S.gen:=⟨U.1,U.2.1⟩;obtain⟨g,f⟩:∃g,S.gen=g:=⟨_,rfl⟩;rw[f] at hg;obtain⟨ar,y⟩:∃m,Qe C.n=m:=⟨_,rfl⟩;have i2:ar<=18:=by unfold Qe at y;omega
 obtain⟨t,d4⟩:∃t,(g % 2).toNat=t:=⟨_,rfl⟩;have b:g % 2=(t:Int):=by have:=hg.1;omega
 have j7:t<2:=by omega
 have i5:g.tmod 2=(t:Int):=by rw[Int.tmod_eq_emod_of_nonneg (by have:=hg.1;omega)];exact b
 obtain⟨a,ha⟩:∃a,Qo C.n g=a:=⟨_,rfl⟩;have i8:a<=40:=by
  rw[<-ha];unfold Qo;rw[y,d4];rcases (show t=0\/t=1 by omega) with e|e<;>rw[e]<;>omega
 obtain⟨sb,e0⟩:∃x,swB S (t:Int)=x:=⟨_,rfl⟩;have a6:Xq S (t:Int)=true:=by unfold Xq;rw[a1,Bool.true_and];exact decide_eq_true ⟨by omega,by omega⟩
 have b9:=(ql9 a6).1;obtain⟨W,hW⟩:∃W,Dx (Qo C.n S.gen) (Y4 C S.gen)=W:=⟨_,rfl⟩;have c7:Vp C S=Uo W t sb:=by unfold Vp;rw[hW,f,b,e0,<-b,d4]
 have e4:W.length=ar:=by rw[<-hW,qdj,q1h,y]
 have e7:∀j,j<ar->W.take (j+1)=W.take j++[.w (a+j) (Zr (Uh C.n g j) (C.body (j:Int)))]:=λj hj=>by
  rw[<-hW,qsf _ _ (by rw[q1h,y];exact hj),qdk _ _ (by rw[y];exact hj),f,ha]
 have K:∀j,j<ar->Xi ⟨2,((a+j:Nat):Int),0,0,g⟩ (C.body (j:Int))=0/\Xo ⟨2,((a+j:Nat):Int),0,0,g⟩ (C.body (j:Int))=Zr (Uh C.n g j) (C.body (j:Int)):=λj hj=>by
  have e1:=qnt d7.1 d7.2 hg (i:=j) (by rw[y];exact hj);have f4:=Ct.Ug (C:=C) (i:=j) (by rw[y];exact hj);have g8:Uh C.n g j=⟨2,((a+j:Nat):Int),0,0,g⟩:=by unfold Uh;rw[ha]
  rw[<-g8];unfold Xi Xo;rw[if_pos e1,if_pos e1,if_pos (by rw[f4];exact Nat.le_refl _),if_pos (by rw[f4];exact Nat.le_refl _)];exact⟨rfl,rfl⟩
 have hA:=qfs S C.n c9 d7.2 ⟨by rw[f];have:=hg.1;omega,by rw[f];have:=hg.2;omega⟩;rw[f,ha,y] at hA;have HA:=Lib.hid hA;have HS:=Lib.hid c7;have f1:=Lib.hid e4;have g2:=Lib.hid e7;have d9:=Lib.hid K;have j0:=Lib.hid b;have f0:=Lib.hid e0;have e9:=Lib.hid b9;have i4:=Lib.hid a6;have a8:=Lib.hid Q;have b8:=Lib.hid c8;have g6:=Lib.hid hG;have X1:=SB.new w S 98;have b1:Below w.1.size w (w.alloc (.cells S.vs.toArray 98)):=Qm;have L1:=L.tight.below b1;have H1:=H.below b1;have t1:=ht.below b1 ht.1;have i7:=H.lt;have j8:=ht.1;clear hA c7 hW e4 e7 K U b e0 b9 a6 Q ha c9 c8 hG a1 d4 hg L ht H;have e6:=X1.ld;go_enter Tryz.func51,Tryz.ntmps51
 go_wp2_with fail
 generalize w.alloc (.cells S.vs.toArray 98)=w1 at b1 L1 H1 t1 X1 e6 ⊢;refine (HA.out w1).mono ?_;rintro e w2 ⟨rfl,b2⟩;have L2:=L1.below b2;have H2:=H1.below b2;have t2:=t1.below b2 t1.1;have X2:=X1.below b2 X1.lt;have B2:=b1.trans (b2.mono b1.size);have i1:w.1.size<w2.1.size:=X2.lt;clear e6 L1 H1 t1 X1 b1 b2;have L0:=L2.dsk;have M:∀wr,Turn (λk=>S0 k/\k<w.1.size) w2 wr->SB wr w.1.size S/\Yt wr pc o Sc C/\Tab wr:=λwr T=>
  ⟨X2.block (T.block _ i1 (λh=>by have:=h.2;omega)),H2.keep (T.block pc (by omega) λh=>(b8.out pc h.1).1 rfl) (λk hk hs=>T.block k hk λh=>(b8.out k h.1).2 hs),t2.turned T λh=>g6.out h.1⟩
 have g0:=Lib.hid M;clear M X2 H2 t2 L2;go_wp2_with fail
 go_loopw [9,10,11,21] (λ_ _ _ i wr=>∃j:Nat,j<=ar/\i=.int .i64 (j:Int)/\D.Zy (W.take j)=0/\Df w2 wr d (λk=>S0 k/\k<w.1.size) (D.Qk (W.take j))) (λ_ _ _ i _=>ar-(intOf i).toNat)
 case atStart=>exact⟨0,by omega,rfl,rfl,L0⟩
 case round=>
  clear L0;obtain⟨j,hj,rfl,hE,L1⟩:=hrel;have J:=q3c (W.take j) g9;have i3:(W.take j).length<=18:=by rw[List.length_take,f1.out];omega
  obtain⟨D1,d3⟩:∃D1,D.Qk (W.take j)=D1:=⟨_,rfl⟩;rw[d3] at L1 J;have d6:=Lib.hid d3;have HE:=Lib.hid hE;obtain⟨X3,H3,t3⟩:=g0.out wr L1.turn;clear d3 hE;by_cases f2:j<ar
  ·have e3:(j:Int)<(ar:Int):=by omega
   have g1:=Lib.hid (g2.out j f2);obtain⟨s1,s2⟩:=d9.out j f2;obtain⟨x,hx⟩:∃x,Zr (Uh C.n g j) (C.body (j:Int))=x:=⟨_,rfl⟩;rw[hx] at s2;obtain⟨s,hs⟩:∃s,a+j=s:=⟨_,rfl⟩;rw[hs] at s1 s2;have i9:(a:Int)+(j:Int)=(s:Int):=by omega
   have i6:s<=100:=by omega
   have G:=Lib.hid (show D.Zy (W.take (j+1))=D1.says (.w s x) by rw[g1.out,q6o,if_pos HE.out,d6.out,hx,hs]);have u:=Lib.hid (show D.Qk (W.take (j+1))=D1.does (.w s x) by rw[g1.out,q6p,if_pos HE.out,d6.out,hx,hs]);have S1:=Lib.hid s1;have S2:=Lib.hid s2;have q0:=X3.c0;rw[f] at q0;obtain⟨E,e2⟩:∃E,D1.says (.w s x)=E:=⟨_,rfl⟩;have b7:=Lib.hid e2;clear e2 hx hs s1 s2;by_cases h0:E=0
   ·have nb:(E != 0)=false:=by simpa using h0
    have H0:=Lib.hid h0;clear h0;go_wp2_with (first
     |(go_at_call 85;refine (q6q _ g wr).mono ?_;rintro e w4 ⟨rfl,X⟩;have H4:=H3.below X;have t4:=t3.below X t3.1)
     |(go_at_call 86;refine (qfq H4 (j:Int)).mono ?_;rintro e w5 ⟨V,n5,c5,rfl,s5,R,_⟩;have t5:=t4.below R t4.1)
     |(go_at_call 84;refine (q5u ⟨2,(s:Int),0,0,g⟩ V n5 c5 _ w5 s5 t5).mono ?_;rw[S1.out,S2.out];rintro e w6 ⟨A6,n6,c6,rfl,Z,g4,b6⟩;have L6:=L1.below (X.trans ((R.mono X.size).trans (b6.mono (Nat.le_trans X.size R.size)))))
     |(go_at_call 80;refine (q1v L6 J (by omega) s _ rfl A6 n6 c6 x Z.sl).mono ?_;rw[b7.out];rintro e w7 ⟨rfl,L7⟩)
     |fail)
    exact⟨⟨j+1,by omega,by go_num,G.out.trans (b7.out.trans H0.out),by rw[u.out];exact L7⟩,by simp[intOf];omega⟩
   ·have nb:(E != 0)=true:=by simpa using h0
    have I:D.Zy (W.take (j+1))≠0:=λh=>h0 (b7.out.symm.trans (G.out.symm.trans h))
    have Y:Vp C S=W.take (j+1)++(W.drop (j+1)++.fl::[.w t sb,.fl]):=by rw[HS.out];unfold Uo;rw[<-List.append_assoc,List.take_append_drop]
    obtain⟨B,F⟩:=q2z (l':=W.drop (j+1)++.fl::[.w t sb,.fl]) I;have R1:=Lib.hid (show D.Xp (Vp C S)=false by unfold DM.Xp;rw[Y,B];exact decide_eq_false I);have R2:=Lib.hid (show D.Qk (Vp C S)=D1.does (.w s x) by rw[Y,F,u.out]);clear Y B F I h0;go_wp2_with (first
     |(go_at_call 85;refine (q6q _ g wr).mono ?_;rintro e w4 ⟨rfl,X⟩;have H4:=H3.below X;have t4:=t3.below X t3.1)
     |(go_at_call 86;refine (qfq H4 (j:Int)).mono ?_;rintro e w5 ⟨V,n5,c5,rfl,s5,R,_⟩;have t5:=t4.below R t4.1)
     |(go_at_call 84;refine (q5u ⟨2,(s:Int),0,0,g⟩ V n5 c5 _ w5 s5 t5).mono ?_;rw[S1.out,S2.out];rintro e w6 ⟨A6,n6,c6,rfl,Z,g4,b6⟩;have L6:=L1.below (X.trans ((R.mono X.size).trans (b6.mono (Nat.le_trans X.size R.size)))))
     |(go_at_call 80;refine (q1v L6 J (by omega) s _ rfl A6 n6 c6 x Z.sl).mono ?_;rw[b7.out];rintro e w7 ⟨rfl,L7⟩)
     |fail)
    go_ret;exact⟨by rw[R1.out];rfl,by rw[R2.out];exact L7.from B2⟩
  ·have i0:j=ar:=by omega
   subst i0;have a7:W.take j=W:=List.take_of_length_le (by rw[f1.out];exact Nat.le_refl _);have d2:=HE.out;have d5:=d6.out;rw[a7] at d2 d5;obtain⟨B,F⟩:=qst (D:=D) (A:=W) t sb d2;rw[d5,<-HS.out] at B F;have e3:¬(j:Int)<(j:Int):=by omega
   have b3:=q6n J .fl;obtain⟨E1,G⟩:∃E,D1.says .fl=E:=⟨_,rfl⟩;obtain⟨D2,u⟩:∃E,D1.does .fl=E:=⟨_,rfl⟩;rw[u] at b3;rw[(q5h _ _ _).1,G,u] at B;rw[(q5h _ _ _).2,G,u] at F;have d1:=Lib.hid G;have d0:=Lib.hid u;clear G u d2 d5 a7;by_cases h1:E1=0
   ·have g5:(E1 != 0)=false:=by simpa using h1
    rw[if_pos h1] at B F;have e5:=q6n b3 (.w t sb);obtain⟨E2,b0⟩:∃E,D2.says (.w t sb)=E:=⟨_,rfl⟩;obtain⟨D3,a2⟩:∃E,D2.does (.w t sb)=E:=⟨_,rfl⟩;rw[a2] at e5;rw[(q5h _ _ _).1,b0,a2] at B;rw[(q5h _ _ _).2,b0,a2] at F;have f9:=Lib.hid b0;have f3:=Lib.hid a2;clear b0 a2 h1;have q0:=X3.c0;rw[f] at q0;have e8:=Lib.hid (λ(w':World) (l':Df w2 w' d (λk=>S0 k/\k<w.1.size) D2)=>g0.out w' l'.turn);by_cases h2:E2=0
    ·rw[if_pos h2,(qok _ _).1] at B;rw[if_pos h2,(qok _ _).2] at F;have g3:(E2==0)=true:=by simpa using h2
     have R1:=Lib.hid (show D.Xp (Vp C S)=decide (D3.says .fl=0) by unfold DM.Xp;rw[B]);have R2:=Lib.hid F;clear B F h2;go_wp2_with (first
      |(go_at_call 81;refine (q3k L1 J (by omega)).mono ?_;rw[d1.out,d0.out];rintro e w4 ⟨rfl,L4⟩;obtain⟨X4,H4,t4⟩:=e8.out w4 L4;have d8:=X4.c0;rw[f] at d8;have g7:=X4.ld)
      |(go_at_call 87;refine (q8e S (t:Int) a8.out w4 t4).mono ?_;rw[e9.out,f0.out];rintro e w5 ⟨A5,n5,c5,rfl,O,_,R⟩;have L5:=L4.below R)
      |(go_at_call 80;refine (q1v L5 b3 (by omega) t _ rfl A5 n5 c5 sb O.sl).mono ?_;rw[f9.out,f3.out];rintro e w6 ⟨rfl,L6⟩)
      |(go_at_call 81;have hh:=L6;refine (q3k L6 e5 (by omega)).mono ?_;rintro e w7 ⟨rfl,L7⟩)
      |fail)
     go_ret;exact⟨by rw[R1.out];rfl,by rw[R2.out];exact L7.from B2⟩
    ·rw[if_neg h2] at B F;have g3:(E2==0)=false:=by simpa using h2
     have R1:=Lib.hid (show D.Xp (Vp C S)=false by unfold DM.Xp;rw[B];exact decide_eq_false h2);have R2:=Lib.hid F;clear B F h2;go_wp2_with (first
      |(go_at_call 81;refine (q3k L1 J (by omega)).mono ?_;rw[d1.out,d0.out];rintro e w4 ⟨rfl,L4⟩;obtain⟨X4,H4,t4⟩:=e8.out w4 L4;have d8:=X4.c0;rw[f] at d8;have g7:=X4.ld)
      |(go_at_call 87;refine (q8e S (t:Int) a8.out w4 t4).mono ?_;rw[e9.out,f0.out];rintro e w5 ⟨A5,n5,c5,rfl,O,_,R⟩;have L5:=L4.below R)
      |(go_at_call 80;refine (q1v L5 b3 (by omega) t _ rfl A5 n5 c5 sb O.sl).mono ?_;rw[f9.out,f3.out];rintro e w6 ⟨rfl,L6⟩)
      |fail)
     go_ret;exact⟨by rw[R1.out];rfl,by rw[R2.out];exact L6.from B2⟩
   ·have g5:(E1 != 0)=true:=by simpa using h1
    rw[if_neg h1] at B F;have R1:=Lib.hid (show D.Xp (Vp C S)=false by unfold DM.Xp;rw[B];exact decide_eq_false h1);have R2:=Lib.hid F;clear B F h1;go_wp2_with (first
     |(go_at_call 81;refine (q3k L1 J (by omega)).mono ?_;rw[d1.out,d0.out];rintro e w4 ⟨rfl,L4⟩)
     |fail)
    go_ret;exact⟨by rw[R1.out];rfl,by rw[R2.out];exact L4.from B2⟩
end
section
def Hd.same (a b:Hd):Bool:=a.kind==b.kind&&(a.addr==b.addr&&(a.count==b.count&&(a.level==b.level&&a.gen==b.gen)))
theorem Hd.same_iff (a b:Hd):a.same b=true↔a=b:=by
 unfold Hd.same;simp only[Bool.and_eq_true,beq_iff_eq];constructor
 ·rintro⟨h1,h2,u,f,e⟩
  cases a;cases b;simp_all
 ·rintro rfl;simp
theorem qsu (d:Nat)(a b:Hd)(w:World):(Op.equalIn (d+2) 150 a.v b.v).run Tryz.prog w=.ok (a.same b) w:=by
 unfold Hd.v;rw[run_equalIn_agg w (d+1) 150 _ _ (by kernel_rfl) (by kernel_rfl)];unfold Program.fieldsOf;rw[Tryz.underlying150];simp[go_sem,Tryz.underlying3];unfold Hd.same;by_cases h1:a.kind=b.kind
 ·by_cases h2:a.addr=b.addr
  ·by_cases e:a.count=b.count
   ·by_cases f:a.level=b.level
    ·by_cases u:a.gen=b.gen
     ·simp[h1,h2,e,f,u]
     ·simp[h1,h2,e,f,u]
    ·simp[h1,h2,e,f]
   ·simp[h1,h2,e]
  ·simp[h1,h2]
 ·simp[h1]
theorem qxq (a b:Hd)(r:Bool)(h:a.same b=r)(w:World):(binOp .neq 150 (.agg #[.int .i64 a.kind,.int .i64 a.addr,.int .i64 a.count,.int .i64 a.level,.int .i64 a.gen]) (.agg #[.int .i64 b.kind,.int .i64 b.addr,.int .i64 b.count,.int .i64 b.level,.int .i64 b.gen])).run Tryz.prog w=.ok (.bool (!r)) w:=by
 rw[run_neq_struct];have:=qsu 9998 a b w;unfold Hd.v at this;rw[this,h];rfl
theorem qxr (e:BinOp)(x y:Operand)(xs b:Array Value)(w:World):(eqGuard e 150 x y (.agg xs) (.agg b)).run Tryz.prog w=.ok () w:=
 run_eqGuard_agg w e 150 x y xs b (by kernel_rfl)
theorem qjl {x:List UInt8}{a:Nat}{g:Int}:Kt x a g=(okB x&&(Yq x).same ⟨2,(a:Int),0,0,g⟩):=by
 cases b:okB x
 ·unfold Kt Td;rw[b];rfl
 ·rw[Bool.true_and,Bool.eq_iff_iff,Hd.same_iff];unfold Kt Td;rw[b,Bool.true_and,Bool.and_eq_true];constructor
  ·rintro⟨h1,h2⟩;obtain⟨B,A⟩:=of_decide_eq_true h1;obtain⟨y,u,e⟩:=of_decide_eq_true h2
   cases f:Yq x;rw[f] at B A y u e;simp_all
  ·intro h;rw[h];exact⟨decide_eq_true ⟨rfl,rfl⟩,decide_eq_true ⟨rfl,rfl,rfl⟩⟩
def mkP (a b:Value):Sem Value:=Instr.makeSlice 168 a b
theorem qsv (a b:Value):Instr.makeSlice 168 a b=mkP a b:=rfl
def Qab (n:Nat)(w:World):World:=w.alloc (.cells (madeCells #[.slice none 0 0] (n*1)) 31)
theorem qw7 (n:Nat)(hn:n<=1000)(w:World):(mkP (.int .i64 (n:Int)) (.int .i64 (n:Int))).run Tryz.prog w=.ok (.slice (some ⟨w.1.size,0,none⟩) n n) (Qab n w):=by
 obtain⟨i,u,f,b,e⟩:=info_parts (show (Tryz.prog.info? 31).map (λi=>(i.zero,i.size,i.bytes))=some (some (.slice none 0 0),1,24) by kernel_rfl);have h:=run_makeSlice (P:=Tryz.prog) w 168 31 i _ Tryz.underlying168 u f .i64 .i64 n n (by omega) (by omega) (by rw[b,Int.toNat_natCast];omega) (by rw[e];omega) (by omega);rw[b] at h;exact h
theorem qsw (n:Nat)(w:World):(Qab n w).1[w.1.size]?=some (.cells (madeCells #[.slice none 0 0] (n*1)) 31 (0,0)):=heap_alloc_new w _
def BR (w:World)(b n j:Nat)(f:Nat->List UInt8):Prop:=∃cur:Array Value,w.1[b]?=some (.cells cur 31 (0,0))/\cur.size=n/\∀i,i<j->∃A m c,cur[i]?=some (.slice A m c)/\Sl w A m c (f i)/\∀e,A=some e->e.block≠b
theorem BR.lt {w:World}{b n j:Nat}{ls:Nat->List UInt8}(H:BR w b n j ls):b<w.1.size:=by
 obtain⟨cur,h,_⟩:=H;exact Wi h
theorem BR.below {w w':World}{b n j:Nat}{ls:Nat->List UInt8}(H:BR w b n j ls)(hb:Below w.1.size w w'):BR w' b n j ls:=by
 obtain⟨cur,h,h2,B⟩:=H;refine⟨cur,(hb.block b (Wi h)).trans h,h2,λi u=>?_⟩;obtain⟨A,m,c,e,y,f⟩:=B i u;exact⟨A,m,c,e,y.below hb,f⟩
theorem BR.at_ {w:World}{b n j:Nat}{ls:Nat->List UInt8}(H:BR w b n j ls){i:Nat}(hi:i<n):(∃v,w.cell? ⟨b,i,none⟩=some v)/\w.frozen? ⟨b,i,none⟩=false:=by
 obtain⟨cur,h,h2,_⟩:=H;refine⟨⟨cur[i],?_⟩,by unfold World.frozen?;rw[h];simp⟩;rw[cell_of_row _ _ _ _ _ _ h,Array.getElem?_eq_getElem (by omega)]
theorem BR.Vr {w:World}{b n j:Nat}{ls:Nat->List UInt8}(H:BR w b n j ls)(hj:j<n){A:Option Addr}{m c:Nat}(hs:Sl w A m c (ls j))(hA:∀f,A=some f->f.block≠b):BR (w.setCell ⟨b,j,none⟩ (.slice A m c)) b n (j+1) ls:=by
 obtain⟨cur,h,h2,G⟩:=H;have T:Turn (λk=>k=b) w (w.setCell ⟨b,j,none⟩ (.slice A m c)):=Ez (a:=⟨b,j,none⟩) _ rfl;refine⟨_,heap_setCell_same w b j cur _ _ h,by simp[h2],λi I=>?_⟩;by_cases e:i=j
 ·subst e;exact⟨A,m,c,by simp[h2,hj],q9z hs T λf e=>hA f e,hA⟩
 ·obtain⟨D,B,F,E,y,u⟩:=G i (by omega);exact⟨D,B,F,by rw[Array.getElem?_setIfInBounds_ne (Ne.symm e)];exact E,q9z y T λf e=>u f e,u⟩
theorem BR.parts {w:World}{b n:Nat}{ls:Nat->List UInt8}(H:BR w b n n ls)(hn:n<=1000):Parts w (some ⟨b,0,none⟩) n n ((List.range n).map ls):=by
 have f:=H.lt;obtain⟨cur,h,h2,D⟩:=H;refine⟨by simp,Nat.le_refl _,by unfold maxLen;omega,λj l u=>?_⟩;have y:j<n:=by have:=(List.getElem?_eq_some_iff.1 u).1;simpa using this
 rw[List.getElem?_map,List.getElem?_range y] at u;obtain rfl:ls j=l:=by simpa using u
 obtain⟨A,m,c,e,B,_⟩:=D j y;refine⟨_,A,m,c,rfl,f,?_,B⟩;rw[show (⟨b,0,none⟩:Addr).add j=⟨b,j,none⟩ by simp[Addr.add];exact λh=>h.symm,cell_of_row _ _ _ _ _ _ h];exact e
theorem qdv {D:DM}(b:D.off=false){s:Nat}(e:s<D.n):D.Yu (s:Int)=D.newest s/\D.Ym (s:Int)=0:=by
 unfold DM.Yu DM.Ym;have h:0<=(s:Int)/\(s:Int)<(D.n:Int):=by omega
 rw[b];simp only[Bool.false_eq_true,if_false];rw[if_pos h,if_pos h,Int.toNat_natCast];exact⟨rfl,rfl⟩
attribute [local go_sem ↓] q1n qsv
theorem qol {w:World}{d:Nat}{S0:Nat->Prop}{D:DM}(L:Y9 w d S0 D)(e8:D.off=false)(S:Sp)(c8:S.may=true)(b6:S.Qb=(D.n:Int))(ht:Tab w) :
  Calls Tryz.prog 58 #[.pointer (some ⟨d,0,none⟩),.agg S.vs.toArray] w λe w'=>
   ((((∀i,i<Qe D.n->Kt (D.newest (Qo D.n S.gen+i)) (Qo D.n S.gen+i) S.gen=true)/\Xf (D.n:Int) (mtB D.newest D.n S.gen)=0)/\∃p,e=.returned (.tuple #[.pointer (some ⟨p,0,none⟩),.int .i64 0])/\Yt w' p 0 (λk=>w.1.size<=k) (Me D.newest D.n S.gen)/\w.1.size<=p)\/
    (¬((∀i,i<Qe D.n->Kt (D.newest (Qo D.n S.gen+i)) (Qo D.n S.gen+i) S.gen=true)/\Xf (D.n:Int) (mtB D.newest D.n S.gen)=0)/\∃E,E≠0/\e=.returned (.tuple #[.pointer none,.int .i64 E])))/\Below w.1.size w w':=by
 have b9:=L.Qb;unfold Qb at b9;have a6:=(q12 c8).1;have hg:Kv S.gen:=⟨a6.1,a6.2.1⟩;obtain⟨g,Q⟩:∃g,S.gen=g:=⟨_,rfl⟩;rw[Q] at hg ⊢;have d3:=λi hi=>q2x b9.1 b9.2 g (i:=i) hi
 obtain⟨F,a1⟩:∃m,Qe D.n=m:=⟨_,rfl⟩;have f9:F<=18:=by unfold Qe at a1;omega
 obtain⟨a,ha⟩:∃a,Qo D.n g=a:=⟨_,rfl⟩;have hA:=qfs S D.n b6 b9.2 ⟨by rw[Q];have:=hg.1;omega,by rw[Q];have:=hg.2;omega⟩;rw[Q,ha,a1] at hA;rw[ha,a1] at d3;have hB:mtB D.newest D.n g=(List.range F).map λi=>(D.newest (a+i)).drop 20:=by unfold mtB;rw[a1,ha]
 have hC:Me D.newest D.n g=Vu D.n (mtB D.newest D.n g):=rfl;rw[hC,hB,ha,a1];generalize hG:((∀i,i<F->Kt (D.newest (a+i)) (a+i) g=true)/\Xf (D.n:Int) ((List.range F).map λi=>(D.newest (a+i)).drop 20)=0)=G;have HG:=Lib.hid hG;have HA:=Lib.hid hA;have e7:=Lib.hid d3;have e0:=λw' (H:SB w' w.1.size S)=>H.ld
 have q1:=λw' (H:SB w' w.1.size S)=>H.c1
 have q0:=λw' (H:SB w' w.1.size S)=>H.c0
 rw[b6] at q1;rw[Q] at q0;have g9:=Lib.hid e0;have Q0:=Lib.hid q0;have Q1:=Lib.hid q1;have X1:=SB.new w S 98;have b1:Below w.1.size w (w.alloc (.cells S.vs.toArray 98)):=Qm;have i1:=ht.1;have L1:=L.tight.below b1;have t1:=ht.below b1 ht.1;have e1:=X1.ld;have f1:=qw7 F (by omega);clear hG hA d3 a6 hg b6 c8 a1 ha e0 q0 q1 Q L ht hB hC;go_enter Tryz.func58,Tryz.ntmps58
 go_wp2_with fail
 generalize w.alloc (.cells S.vs.toArray 98)=w1 at b1 L1 t1 X1 e1 ⊢;refine (HA.out w1).mono ?_;rintro e w2 ⟨rfl,b2⟩;have L2:=L1.below b2;have t2:=t1.below b2 t1.1;have X2:=X1.below b2 X1.lt;have B2:=b1.trans (b2.mono b1.size);clear e1 L1 t1 X1 b1 b2;have b3:Below w2.1.size w2 (Qab F w2):=Qm;have R3:BR (Qab F w2) w2.1.size F 0 (λi=>(D.newest (a+i)).drop 20):=⟨_,qsw F w2,by rw[size_madeCells,Nat.mul_one],λi hi=>absurd hi (Nat.not_lt_zero _)⟩;go_wp2_with fail
 have L3:=L2.below b3;have t3:=t2.below b3 t2.1;have X3:=X2.below b3 X2.lt;have B3:=B2.trans (b3.mono B2.size);have f3:w.1.size<w2.1.size:=X2.lt;generalize Qab F w2=w3 at R3 L3 t3 X3 B3 ⊢;obtain⟨bb,e6⟩:∃b,w2.1.size=b:=⟨_,rfl⟩;rw[e6] at R3 f3 ⊢;clear L2 t2 X2 B2 b3 e6 f1;go_loopw [9,10,11,12,13,14,23] (λ_ _ _ _ _ _ i wr=>∃j:Nat,j<=F/\i=.int .i64 (j:Int)/\(∀q,q<j->Kt (D.newest (a+q)) (a+q) g=true)/\BR wr bb F j (λi=>(D.newest (a+i)).drop 20)/\Y9 wr d (λk=>S0 k/\k<w.1.size) D/\Tab wr/\SB wr w.1.size S/\Below w.1.size w wr) (λ_ _ _ _ _ _ i _=>F-(intOf i).toNat)
 case atStart=>exact⟨0,by omega,rfl,λq hq=>absurd hq (Nat.not_lt_zero _),R3,L3,t3,X3,B3⟩
 case round=>
  clear R3 L3 t3 X3 B3;obtain⟨j,hj,rfl,c7,R,L,t,X,B⟩:=hrel;have c6:=Lib.hid c7;clear c7;by_cases b0:j<F
  ·have e3:(j:Int)<(F:Int):=by omega
   obtain⟨_,i2,_,i4⟩:=e7.out j b0;obtain⟨s,hs⟩:∃s,a+j=s:=⟨_,rfl⟩;rw[hs] at i2 i4;have g8:(a:Int)+(j:Int)=(s:Int):=by omega
   obtain⟨r1,r2⟩:=qdv e8 i4;obtain⟨x,hx⟩:∃x,D.newest s=x:=⟨_,rfl⟩;rw[hx] at r1;obtain⟨_,_,_,_,_,L'⟩:=L;have d6:=q9g L' (s:Int);rw[r1,r2] at d6;have L:Y9 wr d (λk=>S0 k/\k<w.1.size) D:=⟨_,_,_,_,_,L'⟩;have d2:=Lib.hid d6;have Hs:=Lib.hid hs;have Hx:=Lib.hid hx;clear d6 r1 r2 hs hx L'
   cases b7:okB x
   ·have e4:Kt (D.newest (a+j)) (a+j) g=false:=by rw[Hs.out,Hx.out,qjl,b7];rfl
    have d0:=Lib.hid (show ¬G by rw[<-HG.out];exact λh=>by have:=h.1 j b0;rw[e4] at this;cases this);obtain⟨o1,o2,o3⟩:=qik b7;clear e4;go_wp2_with (first
     |(go_at_call 56;refine d2.out.mono ?_;rintro e w4 ⟨A4,n4,rfl,s4,_,I,_⟩;have t4:=t.below I t.1)
     |(go_at_call 97;have hO:=q5v A4 n4 n4 x w4 s4 t4;unfold q21 at hO;rw[o1,o2,o3] at hO;refine hO.mono ?_;rintro e f ⟨A5,n5,c5,rfl,J,b5⟩)
     |(refine q43 rfl (.tmp 12) (.tmp 37) rfl f.1.size rfl Hd.zero _ rfl (HB.zero f _) (by simp) ?_;intro y K a8 T6;have a2:Below f.1.size f y:=(Qm).trans (a8 _ (Nat.le_refl _));have A:Below wr.1.size wr y:=I.trans ((b5.trans (a2.mono b5.size)).mono I.size))
     |fail)
    have B6:=B.trans (A.mono B.size);go_quiet (fail)
    generalize d8:World.drewN y _=w7;have B7:Below w.1.size w w7:=by rw[<-d8];exact⟨B6.os,B6.tape,B6.output,B6.size,B6.block⟩
    clear d8;go_wp2;go_ret2;exact⟨.inr ⟨d0.out,5,by omega,rfl⟩,B7⟩
   ·obtain⟨o1,o2,o3⟩:=q78 b7;obtain⟨H,hH⟩:∃H,Yq x=H:=⟨_,rfl⟩;have o1:Yq x=H:=hH;obtain⟨r,hr⟩:∃r,H.same ⟨2,(s:Int),0,0,g⟩=r:=⟨_,rfl⟩;have e2:Kt (D.newest (a+j)) (a+j) g=r:=by rw[Hs.out,Hx.out,qjl,b7,hH,hr];rfl
    have g6:=qxq H ⟨2,(s:Int),0,0,g⟩ r hr;have f4:=qxr;have q0:=Q0.out wr X;have zX:=X.lt;have d7:=Lib.hid e2;clear e2 hr hH
    cases r
    ·have d0:=Lib.hid (show ¬G by rw[<-HG.out];exact λh=>by have:=h.1 j b0;rw[d7.out] at this;cases this);go_wp2_with (first
      |(go_at_call 56;refine d2.out.mono ?_;rintro e w4 ⟨A4,n4,rfl,s4,_,I,_⟩;have t4:=t.below I t.1)
      |(go_at_call 97;have hO:=q5v A4 n4 n4 x w4 s4 t4;unfold q21 at hO;rw[o1,o2,o3] at hO;refine hO.mono ?_;rintro e f ⟨A5,n5,c5,rfl,J,b5⟩)
      |(refine q43 rfl (.tmp 12) (.tmp 37) rfl f.1.size rfl H _ rfl (HB.zero f _) (by simp) ?_;intro y K a8 T6;have a2:Below f.1.size f y:=(Qm).trans (a8 _ (Nat.le_refl _));have A:Below wr.1.size wr y:=I.trans ((b5.trans (a2.mono b5.size)).mono I.size))
      |fail)
     have b8:=(A.cell (p:=⟨w.1.size,0,none⟩) zX).trans q0;have d4:w.1.size<y.1.size:=Nat.lt_of_lt_of_le zX A.size;have zH:f.1.size<y.1.size:=by obtain⟨_,h⟩:=K;exact Wi h
     have B6:=B.trans (A.mono B.size);have W:=K.at_ 0;have U:=K.at_ 1;have Y:=K.at_ 2;have O:=K.at_ 3;have Z:=K.at_ 4;simp only[Yp,Hd.Ea] at W U Y O Z;have g0:∀u:Grown y,u.to.cell? ⟨w.1.size,0,none⟩=some (.int .i64 g):=Grown.cell b8 d4;have g1:∀u:Grown y,u.to.cell? ⟨f.1.size,0,none⟩=some (.int .i64 H.kind):=Grown.cell W zH;have g2:∀u:Grown y,u.to.cell? ⟨f.1.size,3,none⟩=some (.int .i64 H.level):=Grown.cell U zH;have g3:∀u:Grown y,u.to.cell? ⟨f.1.size,1,none⟩=some (.int .i64 H.addr):=Grown.cell Y zH;have g4:∀u:Grown y,u.to.cell? ⟨f.1.size,2,none⟩=some (.int .i64 H.count):=Grown.cell O zH;have g5:∀u:Grown y,u.to.cell? ⟨f.1.size,4,none⟩=some (.int .i64 H.gen):=Grown.cell Z zH;refine Yc (by kernel_rfl) (by kernel_rfl) ?_;repeat (go_big_quiet_step (first
      |(go_at_call 85;exact Calls.grown (q6q _ g _))
      |fail))
     refine wpQuiet_nil ?_;rintro _ ⟨u,rfl⟩;have B7:=B6.trans (u.ok.mono B6.size);go_wp2;go_ret2;exact⟨.inr ⟨d0.out,5,by omega,rfl⟩,B7⟩
    ·go_wp2_with (first
      |(go_at_call 56;refine d2.out.mono ?_;rintro e w4 ⟨A4,n4,rfl,s4,_,I,_⟩;have t4:=t.below I t.1)
      |(go_at_call 97;have hO:=q5v A4 n4 n4 x w4 s4 t4;unfold q21 at hO;rw[o1,o2,o3] at hO;refine hO.mono ?_;rintro e f ⟨A5,n5,c5,rfl,J,b5⟩)
      |(refine q43 rfl (.tmp 12) (.tmp 37) rfl f.1.size rfl H _ rfl (HB.zero f _) (by simp) ?_;intro y K a8 T6;have a2:Below f.1.size f y:=(Qm).trans (a8 _ (Nat.le_refl _));have A:Below wr.1.size wr y:=I.trans ((b5.trans (a2.mono b5.size)).mono I.size))
      |fail)
     have b8:=(A.cell (p:=⟨w.1.size,0,none⟩) zX).trans q0;have d4:w.1.size<y.1.size:=Nat.lt_of_lt_of_le zX A.size;have zH:f.1.size<y.1.size:=by obtain⟨_,h⟩:=K;exact Wi h
     have W:=K.at_ 0;have U:=K.at_ 1;have Y:=K.at_ 2;have O:=K.at_ 3;have Z:=K.at_ 4;simp only[Yp,Hd.Ea] at W U Y O Z;have g0:∀u:Grown y,u.to.cell? ⟨w.1.size,0,none⟩=some (.int .i64 g):=Grown.cell b8 d4;have g1:∀u:Grown y,u.to.cell? ⟨f.1.size,0,none⟩=some (.int .i64 H.kind):=Grown.cell W zH;have g2:∀u:Grown y,u.to.cell? ⟨f.1.size,3,none⟩=some (.int .i64 H.level):=Grown.cell U zH;have g3:∀u:Grown y,u.to.cell? ⟨f.1.size,1,none⟩=some (.int .i64 H.addr):=Grown.cell Y zH;have g4:∀u:Grown y,u.to.cell? ⟨f.1.size,2,none⟩=some (.int .i64 H.count):=Grown.cell O zH;have g5:∀u:Grown y,u.to.cell? ⟨f.1.size,4,none⟩=some (.int .i64 H.gen):=Grown.cell Z zH;refine Yc (by kernel_rfl) (by kernel_rfl) ?_;repeat (go_big_quiet_step (first
      |(go_at_call 85;exact Calls.grown (q6q _ g _))
      |fail))
     refine wpQuiet_nil ?_;rintro _ ⟨u,rfl⟩;have M:Below wr.1.size wr u.to:=A.trans (u.ok.mono A.size);have B7:=B.trans (M.mono B.size);have R7:=R.below M;have s7:Sl u.to A5 n5 c5 ((D.newest (a+j)).drop 20):=by rw[Hs.out,Hx.out,<-o2];exact (o2▸J.sl.below a2).below u.ok
     have e5:∀ad,A5=some ad->ad.block≠bb:=λad e=>by have h1:=(J.block ad e).1;have h2:=R.lt;have h3:=I.size;omega
     obtain⟨⟨v7,g7⟩,f7⟩:=R7.at_ b0;have R8:=R7.Vr b0 s7 e5;have L7:=L.below M;have t7:=t.below M t.1;have X7:=X.below M X.lt;have i0:bb<u.to.1.size:=R7.lt;have a7:Turn (λk=>k=bb) u.to (u.to.setCell ⟨bb,j,none⟩ (.slice A5 n5 c5)):=Ez (a:=⟨bb,j,none⟩) _ rfl;have B8:=B7.trans (a7.below (B:=w.1.size) (λk hk=>by omega) (by omega));have L8:=L7.keep λk hk hs=>a7.block k hk λe=>by have:=hs.2;omega
     have t8:=t7.turned a7 (by omega);have X8:=X7.block (a7.block _ X7.lt (by omega));clear R L t X B R7 L7 t7 X7 B7 s7 e5 g0 g1 g2 g3 g4 g5 W U Y O Z q0 b8 A M a7;go_wp2;refine⟨⟨j+1,by omega,by go_num,λq hq=>?_,R8,L8,t8,X8,B8⟩,by simp[intOf];omega⟩;by_cases e:q=j
     ·rw[e];exact d7.out
     ·exact c6.out q (by omega)
  ·have f2:j=F:=by omega
   subst f2;have q1:=Q1.out wr X;have P:=R.parts (by omega);have d5:=qoi (D.n:Int) _ _ _ _ P;obtain⟨LE,d1⟩:∃x,Xf (D.n:Int) ((List.range j).map λi=>(D.newest (a+i)).drop 20)=x:=⟨_,rfl⟩;obtain⟨LC,c9⟩:∃x,Vu D.n ((List.range j).map λi=>(D.newest (a+i)).drop 20)=x:=⟨_,rfl⟩;rw[Int.toNat_natCast,d1,c9] at d5;have d9:=Lib.hid d1;have e9:=Lib.hid c9;have e3:¬(j:Int)<(j:Int):=by omega
   have f0:=Lib.hid d5;clear d1 c9 d5;go_wp2_with fail
   refine f0.out.mono ?_;rintro e w4 ⟨⟨h0,p,rfl,C4,hp⟩|⟨h0,rfl⟩,I⟩
   ·have hY:=Lib.hid (show G by rw[<-HG.out];exact⟨c6.out,d9.out.trans h0⟩);clear h0;go_wp2;go_ret2;have:=B.size;exact⟨.inl ⟨hY.out,p,rfl,by rw[e9.out];exact C4.mono λk hk=>by omega,by omega⟩,B.trans (I.mono B.size)⟩
   ·have hN:=Lib.hid (show ¬G by rw[<-HG.out];exact λh=>h0 (d9.out.symm.trans h.2));have H0:=Lib.hid h0;clear h0;go_wp2;go_ret2;exact⟨.inr ⟨hN.out,LE,H0.out,rfl⟩,B.trans (I.mono B.size)⟩
end
theorem qjm {l:List UInt8}{slot:Int}(h:Xm l slot=true):(Gf l slot).may=true:=by
 rw[(qja h).1];unfold Xm at h;rw[Bool.and_eq_true,Bool.and_eq_true] at h;have:=h.2.1;unfold Xq at this;rw[Bool.and_eq_true] at this;exact this.1
theorem qxs {a b:List UInt8}(h:Fg a b=0):(snS a b).may=true:=by
 by_cases h1:Xm a 0=false/\Xm b 1=false
 ·rw[(Qcg h1.1 h1.2).2.2] at h
  cases h
 ·by_cases h2:(Gf a 0).gen<(Gf b 1).gen
  ·rw[(Qbo h1 h2).1]
   cases f:Xm b 1
   ·cases e:Xm a 0
    ·exact absurd ⟨e,f⟩ h1
    ·have u:=(q12 (qjm e)).1.1;rw[(qhk f).1] at h2;have:Sp.zero.gen=0:=rfl;omega
   ·exact qjm f
  ·rw[(Qbn h1 h2).1]
   cases e:Xm a 0
   ·cases f:Xm b 1
    ·exact absurd ⟨e,f⟩ h1
    ·have u:=(q12 (qjm f)).1.1;rw[(qhk e).1] at h2;have:Sp.zero.gen=0:=rfl;omega
   ·exact qjm e
theorem qdw {S:Sp}(h:S.may=true):S.fine:=λk b=>by
 have:=q7d h k b;unfold maxLen;omega
theorem qsx {n:Nat}{b:List (List UInt8)}(h:Xf (n:Int) b=0):(32<=n/\n<=2048)/\b.length=Qe n/\∀i,i<Qe n->q57 n (2+2*Qe n) i (nth b i):=by
 unfold Xf at h;split at h
 ·cases h
 ·rename_i h1;have h1:=Decidable.of_not_not h1;rw[Int.toNat_natCast] at h;split at h
  ·cases h
  ·rename_i h2;refine⟨by omega,?_,?_⟩
   ·exact Classical.byContradiction λe=>h2 (.inl e)
   ·exact Classical.byContradiction λe=>h2 (.inr e)
theorem qhr (n:Nat)(b:List (List UInt8)):(Vu n b).n=n:=qb8 _ _ _
theorem qxt {n:Nat}{b:List (List UInt8)}(h:Xf (n:Int) b=0):(Vu n b).res:=by
 obtain⟨h1,h2,D⟩:=qsx h;intro a y u;rw[qhr] at y;have B:a<2+2*Qe n:=by unfold Ct.first at u;rw[qhr] at u;exact u
 have e:nm (Vu n b).now a=nm (Y2 n b (Qe n)).now a:=rfl;rw[e,qb9 n b (Qe n) a y];split
 ·rename_i F;have A:a / 118<Qe n:=by omega
  have f:=(D _ A).2 (a % 118) (Nat.mod_lt _ (by omega));unfold Yy at f;have f:=of_decide_eq_false f;exact Classical.byContradiction λE=>f ⟨E,.inl (by omega)⟩
 ·rfl
