/- The code's pool, plain facts: new blocks as they are kept (of generation 0), and dated -/
import Derived.Test.YtnnbaihfboacoaaGreatDoorEu18
import Derived.Test.YtnnbaihfboacoaaGreatDoorEu20
import Derived.Test.YtnnbaihfboacoaaGreatDoorEu21
import Derived.Lib.SliceRun
namespace Go.Proofs.YtnnbaihfboacoaaGreatDoor
open Go Go.RowKit Go.Proofs
set_option maxHeartbeats 8000000
set_option maxRecDepth 100000
def Es (g:Int):Prop:=0<=g/\g<=1099511627775
theorem qoj {g:Int}(h:Kv g):Es g:=⟨Int.le_trans (by omega) h.1,h.2⟩
theorem q2f:Es 0:=⟨by omega,by omega⟩
def Bk.hd (b:Bk)(a:Nat)(g:Int):Hd:=match b with
 |.node N=>N.head (a:Int) g
 |.bytes k l=>Qb0 k a l.length g
def Bk.body (b:Bk):List UInt8:=match b with
 |.node N=>N.body
 |.bytes _ l=>l
structure Bk.good (b:Bk):Prop where
 hd:∀(a:Nat) (g:Int),a<=2047->Es g->(b.hd a g).ok=true
 body:b.body.length<=236
 out:∀(a:Nat) (g:Int),a<=2047->Es g->b.out a g=Zr (b.hd a g) b.body
theorem Bk.good.len {b:Bk}(h:b.good){a:Nat}{g:Int}(ha:a<=2047)(hg:Es g):(b.out a g).length=256:=by
 rw[h.out a g ha hg];exact q76 _ _ h.body
theorem Bk.good.fine {b:Bk}(h:b.good):b.fine:=λ_ _ e f=>h.len e (qoj f)
theorem qjn (b:Bk)(a:Nat)(g g':Int):b.hd a g'=⟨(b.hd a g).kind,(b.hd a g).addr,(b.hd a g).count,(b.hd a g).level,g'⟩:=by
 cases b<;>rfl
theorem Bk.good.opens {b:Bk}(h:b.good){a:Nat}{g:Int}(ha:a<=2047)(hg:Es g):Yq (b.out a g)=b.hd a g/\Un (b.out a g)=b.body++List.replicate (236-b.body.length) 0/\Na (b.out a g)=0:=by
 rw[h.out a g ha hg];exact q7a _ _ (h.hd a g ha hg) h.body
theorem Bk.good.dates {b:Bk}(h:b.good){a:Nat}{g:Int}(ha:a<=2047)(hg:Es g):Xi (b.hd a g) (b.body++List.replicate (236-b.body.length) 0)=0/\Xo (b.hd a g) (b.body++List.replicate (236-b.body.length) 0)=b.out a g:=by
 have e:(b.body++List.replicate (236-b.body.length) (0:UInt8)).length<=236:=by
  have:=h.body;rw[List.length_append,List.length_replicate];omega
 unfold Xi Xo;rw[if_pos (h.hd a g ha hg),if_pos (h.hd a g ha hg),if_pos e,if_pos e,h.out a g ha hg];refine⟨rfl,(qoe _ _ _ (qo3 _) ?_).symm⟩;have:=h.body;rw[List.length_replicate];omega
def Ia (k:Int):Option Nat:=if k=5 then some 128 else if k=6 then some 236 else none
theorem qlx {k:Int}{m:Nat}(h:Ia k=some m):(k=5\/k=6)/\m<=236:=by
 unfold Ia at h;split at h
 ·cases h;exact⟨.inl (by assumption),by omega⟩
 ·split at h
  ·cases h;exact⟨.inr (by assumption),by omega⟩
  ·cases h
def Pl.live (P:Pl)(a:Nat):Option Bk:=if P.C.get (a:Int)=0 then none else P.L a
theorem qom (P:Pl)(a:Nat):P.Ib a=(P.live a).map λb=>(a,b.out a P.g):=by
 unfold Pl.Ib Pl.live;split
 ·rename_i b e;rw[e];split<;>rfl
 ·rename_i e;rw[e];split<;>rfl
structure DM.Ya (D:DM)(m:Nat):Prop where
 steps:D.steps<=m
 rows:∀s,(D.Zp s).length<=m
theorem DM.Ya.mono {D:DM}{m m':Nat}(h:D.Ya m)(hm:m<=m'):D.Ya m':=⟨Nat.le_trans h.steps hm,λs=>Nat.le_trans (h.rows s) hm⟩
theorem qjk (n:Nat):(DM.mk0 n).Ya 0:=⟨Nat.le_refl _,λ_=>Nat.le_refl _⟩
theorem q5g {D:DM}{m:Nat}(h:D.Ya m):D.stepD.Ya (m+1):=by
 refine⟨?_,λs=>Nat.le_trans (h.rows s) (by omega)⟩;have:=h.steps;show (if D.stop then D.steps else D.steps+1)<=m+1;split<;>omega
theorem qly {D:DM}{m:Nat}(h:D.Ya m)(s:Int)(x:List UInt8):(D.Yz s x).Ya (m+1):=by
 unfold DM.Yz;split
 ·exact h.mono (by omega)
 ·split
  ·exact q5g h
  ·refine⟨(q5g h).steps,λt=>?_⟩;show (upd D.Zp s.toNat (D.Zp s.toNat++[x]) t).length<=m+1;unfold upd;split
   ·have:=h.rows s.toNat;rw[List.length_append];simp;omega
   ·exact Nat.le_trans (h.rows t) (by omega)
theorem qlz {D:DM}{m:Nat}(h:D.Ya m):D.Wl.Ya (m+1):=by
 unfold DM.Wl;split
 ·exact q5g h
 ·exact⟨(q5g h).steps,λ_=>Nat.zero_le _⟩
theorem q6n {D:DM}{m:Nat}(h:D.Ya m)(a:Stp):(D.does a).Ya (m+1):=by
 cases a with
 |w s x=>exact qly h s x
 |fl=>exact qlz h
theorem q3c:∀(l:List Stp) {D:DM} {m:Nat},D.Ya m->(D.Qk l).Ya (m+l.length)
 |[],_,_,h=>h
 |a::l,D,m,h=>by
  show (if D.says a=0 then (D.does a).Qk l else D.does a).Ya (m+(l.length+1));split
  ·exact (q3c l (q6n h a)).mono (by omega)
  ·exact (q6n h a).mono (by omega)
theorem qv8 (D:DM)(a:Stp):(D.does a).n=D.n:=by
 cases a with
 |w s x=>show (D.Yz s x).n=D.n;unfold DM.Yz;split;rfl;split<;>rfl
 |fl=>show D.Wl.n=D.n;unfold DM.Wl;split<;>rfl
theorem qw6:∀(l:List Stp) (D:DM),(D.Qk l).n=D.n
 |[],_=>rfl
 |a::l,D=>by
  show (if D.says a=0 then (D.does a).Qk l else D.does a).n=D.n;split
  ·rw[qw6 l,qv8]
  ·exact qv8 D a
theorem q6o (l:List Stp)(a:Stp)(D:DM):D.Zy (l++[a])=if D.Zy l=0 then (D.Qk l).says a else D.Zy l:=by
 rw[q2v];split
 ·show (if (D.Qk l).says a=0 then (0:Int) else (D.Qk l).says a)=_;split
  ·rename_i h;exact h.symm
  ·rfl
 ·rfl
theorem q6p (l:List Stp)(a:Stp)(D:DM):D.Qk (l++[a])=if D.Zy l=0 then (D.Qk l).does a else D.Qk l:=by
 rw[q2w];split
 ·show (if (D.Qk l).says a=0 then (D.Qk l).does a else (D.Qk l).does a)=_;split<;>rfl
 ·rfl
theorem q2z {l l':List Stp}{D:DM}(h:D.Zy l≠0):D.Zy (l++l')=D.Zy l/\D.Qk (l++l')=D.Qk l:=by
 rw[q2v,q2w,if_neg h,if_neg h];exact⟨rfl,rfl⟩
section
open Go.ChangeMaps (setBlock)
structure PH (cur:Array Value)(d m:Nat)(S:Sp):Prop where
 size:cur.size=41
 disk:cur[0]?=some (.pointer (some ⟨d,0,none⟩))
 sup:∀(j:Nat) x,S.vs[j]?=some x->cur[1+j]?=some x
 fresh:cur[40]?=some (.map (some m))
structure PL (w:World)(p d m:Nat)(cur:Array Value)(l:List MapEntry)(clock:Nat)(v:Nat->Value)(Sc S T:Nat->Prop)(P:Pl):Prop where
 me:w.heap[p]?=some (.cells cur 103 (0,0))
 ph:PH cur d m P.S
 ct:Yt w p 36 Sc P.C
 map:w.heap[m]?=some (.map l.toArray clock)
 ents:Vy l clock
 look:∀a:Nat,Zf a l=(P.live a).map λ_=>v a
 keys:∀e∈l,∃a:Nat,a<P.C.n/\kI e=a
 row:∀a b,P.live a=some b->∃g c,v a=.slice (some ⟨g,0,none⟩) 256 c/\Sl w (some ⟨g,0,none⟩) 256 c (b.out a 0)/\¬T g
 good:∀a b,P.L a=some b->b.good
 Xu:S p/\S m/\(∀k,Sc k->S k)
 ne:∀k,Sc k->k≠p/\k≠m
 sub:∀k,S k->T k
 ok:P.ok
 D8:P.S.fine
def Pool (w:World)(p d:Nat)(S T:Nat->Prop)(P:Pl):Prop:=∃m cur l clock v Sc,PL w p d m cur l clock v Sc S T P
section
variable {w w':World}{p d m clock:Nat}{cur:Array Value}{l:List MapEntry}{v:Nat->Value}{Sc S T:Nat->Prop}{P:Pl}
theorem PL.p_m (L:PL w p d m cur l clock v Sc S T P):p≠m:=λe=>by
 have h:=L.me;rw[e,L.map] at h;cases h
theorem PL.Ie (L:PL w p d m cur l clock v Sc S T P):p<w.1.size:=Wi L.me
theorem PL.mlt (L:PL w p d m cur l clock v Sc S T P):m<w.1.size:=Wi L.map
theorem PL.keep (L:PL w p d m cur l clock v Sc S T P)(hk:∀k,k<w.1.size->S k\/¬T k->w'.1[k]?=w.1[k]?)(hz:w.1.size<=w'.1.size):PL w' p d m cur l clock v Sc S T P:=by
 have B:=hk p L.Ie (.inl L.Xu.1);have F:=hk m L.mlt (.inl L.Xu.2.1);refine⟨B.trans L.me,L.ph,L.ct.keep B λk y A=>hk k y (.inl (L.Xu.2.2 k A)),F.trans L.map,L.ents,L.look,L.keys,λa b h=>?_,L.good,L.Xu,L.ne,L.sub,L.ok,L.D8⟩;obtain⟨g,c,e,A,D⟩:=L.row a b h;refine⟨g,c,e,?_,D⟩;exact stay_slice A hz λf=>hk g f (.inr D)
 where
 stay_slice {w w':World} {g n c:Nat} {x:List UInt8} (h:Sl w (some ⟨g,0,none⟩) n c x) (hz:w.1.size<=w'.1.size) (f:g<w.1.size->w'.1[g]?=w.1[g]?):Sl w' (some ⟨g,0,none⟩) n c x:=
  ⟨h.1,h.2.1,h.2.2.1,λj u H=>by
   obtain⟨I,e,E,G⟩:=h.2.2.2 j u H;injection e with e;subst e;exact⟨_,rfl,Nat.lt_of_lt_of_le E hz,(World.cell?_of_block (a:=(⟨g,0,none⟩:Addr).add j) (by rw[q0n];exact f E)).trans G⟩⟩
theorem PL.other (L:PL w p d m cur l clock v Sc S T P){S':Nat->Prop}(t:Turn S' w w')(hT:∀k,S' k->T k)(hS:∀k,S' k->¬S k):PL w' p d m cur l clock v Sc S T P:=
 L.keep (λk e h=>t.block k e λb=>h.elim (hS k b) λh2=>h2 (hT k b)) t.size
theorem PL.below (L:PL w p d m cur l clock v Sc S T P)(hb:Below w.1.size w w'):PL w' p d m cur l clock v Sc S T P:=L.keep (λk b _=>hb.block k b) hb.size
theorem PL.mono {S' T':Nat->Prop}(L:PL w p d m cur l clock v Sc S T P)(hS:∀k,k<w.1.size->S k->S' k)(hT:∀k,k<w.1.size->T' k->T k)(hST:∀k,S' k->T' k):PL w p d m cur l clock v (λk=>Sc k/\k<w.1.size) S' T' P:=
 ⟨L.me,L.ph,L.ct.shrink,L.map,L.ents,L.look,L.keys,λa b h=>by
  obtain⟨g,c,e,A,D⟩:=L.row a b h;have y:g<w.1.size:=by
   have h1:=A.len;obtain⟨E,u,B,_⟩:=A.2.2.2 0 (bv ((b.out a 0).getD 0 0)) (by rw[List.getElem?_map,List.getD_eq_getElem?_getD,List.getElem?_eq_getElem (by omega)];rfl);injection u with u;subst u;exact B
  exact⟨g,c,e,A,λh=>D (hT g y h)⟩,L.good,⟨hS p L.Ie L.Xu.1,hS m L.mlt L.Xu.2.1,λk f=>hS k f.2 (L.Xu.2.2 k f.1)⟩,λk f=>L.ne k f.1,hST,L.ok,L.D8⟩
theorem PL.c0 (L:PL w p d m cur l clock v Sc S T P):w.cell? ⟨p,0,none⟩=some (.pointer (some ⟨d,0,none⟩)):=Rj L.me L.ph.disk
theorem PL.c40 (L:PL w p d m cur l clock v Sc S T P):w.cell? ⟨p,40,none⟩=some (.map (some m)):=Rj L.me L.ph.fresh
theorem PL.sup (L:PL w p d m cur l clock v Sc S T P):w.rangeAt p 1 P.S.vs:=λj x b=>Rj L.me (L.ph.sup j x b)
theorem PL.fz (L:PL w p d m cur l clock v Sc S T P)(j:Nat):w.frozen? ⟨p,j,none⟩=false:=by unfold World.frozen?;rw[L.me];simp
theorem PL.there (L:PL w p d m cur l clock v Sc S T P){o n:Nat}(h:o+n<=41):w.there p o n:=λj b=>by
 refine⟨?_,L.fz _⟩;rw[cell_of_row _ _ _ _ _ _ L.me,Array.getElem?_eq_getElem (by rw[L.ph.size];omega)];rfl
theorem PL.Qbl (L:PL w p d m cur l clock v Sc S T P){C':Ct}(t:Turn Sc w w')(H:Yt w' p 36 Sc C')(hn:C'.n=P.C.n)(hlive:∀a:Nat,C'.get (a:Int)=0↔P.C.get (a:Int)=0)(hok:Pl.ok ⟨P.S,C',P.L⟩):PL w' p d m cur l clock v Sc S T ⟨P.S,C',P.L⟩:=by
 have B:=t.block p L.Ie λh=>(L.ne p h).1 rfl
 have hm:=t.block m L.mlt λh=>(L.ne m h).2 rfl
 have u:∀a,Pl.live ⟨P.S,C',P.L⟩ a=P.live a:=λa=>by
  unfold Pl.live;by_cases h:P.C.get (a:Int)=0
  ·rw[if_pos h,if_pos ((hlive a).2 h)]
  ·rw[if_neg h,if_neg λh2=>h ((hlive a).1 h2)]
 refine⟨B.trans L.me,L.ph,H,hm.trans L.map,L.ents,λa=>by rw[u a];exact L.look a,λe y=>by rw[hn];exact L.keys e y,λa b h=>?_,L.good,L.Xu,L.ne,L.sub,hok,L.D8⟩;rw[u a] at h;obtain⟨g,c,e,D,f⟩:=L.row a b h;exact⟨g,c,e,PL.keep.stay_slice D t.size λA=>t.block g A λh=>f (L.sub g (L.Xu.2.2 g h)),f⟩
end
theorem Pool.below {w w':World}{p d:Nat}{S T:Nat->Prop}{P:Pl}(h:Pool w p d S T P)(hb:Below w.1.size w w'):Pool w' p d S T P:=by
 obtain⟨m,cur,l,clock,v,Sc,L⟩:=h;exact⟨m,cur,l,clock,v,Sc,L.below hb⟩
theorem Pool.other {w w':World}{p d:Nat}{S T:Nat->Prop}{P:Pl}(h:Pool w p d S T P){S':Nat->Prop}(t:Turn S' w w')(hT:∀k,S' k->T k)(hS:∀k,S' k->¬S k):Pool w' p d S T P:=by
 obtain⟨m,cur,l,clock,v,Sc,L⟩:=h;exact⟨m,cur,l,clock,v,Sc,L.other t hT hS⟩
theorem Pool.mono {w:World}{p d:Nat}{S T S' T':Nat->Prop}{P:Pl}(h:Pool w p d S T P)(hS:∀k,k<w.1.size->S k->S' k)(hT:∀k,k<w.1.size->T' k->T k)(hST:∀k,S' k->T' k):Pool w p d S' T' P:=by
 obtain⟨m,cur,l,clock,v,Sc,L⟩:=h;exact⟨m,cur,l,clock,v,_,L.mono hS hT hST⟩
theorem Pool.ok {w:World}{p d:Nat}{S T:Nat->Prop}{P:Pl}(h:Pool w p d S T P):P.ok:=by
 obtain⟨m,cur,l,clock,v,Sc,L⟩:=h;exact L.ok
end
theorem qfs (S:Sp)(n:Nat)(H:S.Qb=(n:Int))(hn:n<=2048)(F:0<=S.gen/\S.gen<=1099511627776)(w:World) :
  Calls Tryz.prog 83 #[.agg S.vs.toArray] w λe w'=>e=.returned (.tuple #[.int .i64 (Qo n S.gen:Int),.int .i64 (Qe n:Int)])/\Below w.1.size w w':=by
 have A:=SB.new w S 98;have D:Below w.1.size w (w.alloc (.cells S.vs.toArray 98)):=Qm;have K:=A.c1;have J:=A.c0;rw[H] at K;obtain⟨g,f⟩:∃g,S.gen=g:=⟨_,rfl⟩;rw[f] at J F ⊢;obtain⟨U,W⟩:=F;obtain⟨b,hm⟩:∃m,Qe n=m:=⟨_,rfl⟩;have R:b<=18:=by unfold Qe at hm;omega
 obtain⟨t,I⟩:∃t,(g % 2).toNat=t:=⟨_,rfl⟩;have X:t<2:=by omega
 have Y:g.tmod 2=(t:Int):=by rw[Int.tmod_eq_emod_of_nonneg (by omega)];omega
 obtain⟨u,y⟩:∃u,b*t=u:=⟨_,rfl⟩;have Z:u<=18:=by rw[<-y];rcases (show t=0\/t=1 by omega) with e|e<;>rw[e]<;>omega
 have G:(t:Int)*(b:Int)=(u:Int):=by rw[<-y,Int.mul_comm];exact (Int.natCast_mul b t).symm
 obtain⟨a,E⟩:∃a,2+u=a:=⟨_,rfl⟩;have O:(2:Int)+(u:Int)=(a:Int):=by omega
 have Q:a<=20:=by omega
 have B:=Lib.hid (show Qo n g=a by unfold Qo;rw[hm,I,y,E]);have M:=Lib.hid hm;rw[hm];clear hm I y E H f A;go_enter Tryz.func83,Tryz.ntmps83
 go_wp2_with fail
 generalize w.alloc (.cells S.vs.toArray 98)=w1 at D J K ⊢;refine (qcn (n:Int) n rfl (by omega) b M.out w1).mono ?_;rintro e w2 ⟨rfl,rfl⟩;go_wp2;go_ret2;rw[B.out];exact⟨rfl,D⟩
theorem q43 {ops:Array Oper}{f:List Oper}{o:Oper}{a:Act}{w:World}{Q:Exit->Act->World->Prop}(E:o.guard=none)(x y:Operand)(u:o.op=Op.store 150 x y)
  (b:Nat) (A:a.eval x=.pointer (some ⟨b,0,none⟩)) (h h0:Hd) (F:a.eval y=h.v) (H:HB w b h0) (I:b<w.1.size)
  (D:∀w',HB w' b h->(∀B,B<=b->Below B w w')->Turn (λk=>k=b) w w'->wpList Tryz.prog ops Q f (a.put o.dst undef) w'):wpList Tryz.prog ops Q (o::f) a w:=by
 refine wpList_store_mid E _ x y u b 0 h.vs.toArray A F H.there (by kernel_rfl) (by simp[Hd.vs,Value.oneCell']) ?_;have T:=Us (S:=λk=>k=b) rfl h.vs 0 w;refine D _ ?_ (λB G=>T.below (λx A=>by omega) (by omega)) T;obtain⟨t,H⟩:=H;have e:=q0o b t h.vs 0 w h0.vs H (by show 0+5<=5;omega);rw[q4g h0.vs h.vs rfl] at e;exact⟨t,e⟩
theorem q6q (a g:Int)(w:World):Calls Tryz.prog 85 #[.int .i64 a,.int .i64 g] w λe w'=>e=.returned (.agg #[.int .i64 2,.int .i64 a,.int .i64 0,.int .i64 0,.int .i64 g])/\Below w.1.size w w':=by
 have u:=HB.zero w 150;have y:Below w.1.size w (w.alloc (.cells #[.int .i64 0,.int .i64 0,.int .i64 0,.int .i64 0,.int .i64 0] 150)):=Qm;go_enter Tryz.func85,Tryz.ntmps85
 go_wp2_with (first
  |(refine Pz rfl _ _ rfl w.1.size rfl ⟨2,a,0,0,g⟩ _ rfl u (by simp) ?_;intro B f b A)
  |fail)
 refine bodyPost_ret (q2r Tryz.results85 rfl (q88 f)) rfl ?_;exact⟨rfl,y.trans (b _ (Nat.le_refl _))⟩
theorem qm1 (b:Bk)(hb:b.good)(a:Nat)(ha:a<=2047)(g:Int)(hg:Es g)(A:Option Addr)(n c:Nat)(w:World)(hs:Sl w A n c (b.out a 0))(ht:Tab w) :
  Calls Tryz.prog 93 #[.slice A n c,.int .i64 g] w λe w'=>∃q,e=.returned (.slice (some ⟨q,0,none⟩) 256 256)/\Own w' w.1.size 5 (some ⟨q,0,none⟩) 256 256 (b.out a g)/\Below w.1.size w w':=by
 obtain⟨o1,o2,o3⟩:=hb.opens (a:=a) (g:=0) ha q2f;obtain⟨O,Q⟩:=hb.dates (a:=a) (g:=g) ha hg;have E:=q5v A n c _ w hs ht;unfold q21 at E;rw[o1,o2,o3] at E;obtain⟨H1,B⟩:∃H,b.hd a g=H:=⟨_,rfl⟩;obtain⟨R,f⟩:∃H,b.hd a 0=H:=⟨_,rfl⟩;have a1:R.set 4 g=H1:=by rw[<-f,<-B];exact (qjn b a 0 g).symm
 have b0:R.gen=0:=by rw[<-f,qjn b a 1 0]
 rw[B] at O Q;rw[f] at E;obtain⟨Z,G⟩:∃Z,b.body++List.replicate (236-b.body.length) 0=Z:=⟨_,rfl⟩;rw[G] at O Q E;have X:=Lib.hid O;have Y:=Lib.hid Q;clear O Q o1 o2 o3 G f B;go_enter Tryz.func93,Tryz.ntmps93
 go_wp2_with fail
 refine E.mono ?_;rintro e F ⟨A3,n3,c3,rfl,J,D⟩;have I:=ht.below D ht.1;clear E;go_wp2_with (first
  |(refine q43 rfl (.tmp 5) (.tmp 11) rfl F.1.size rfl R _ rfl (HB.zero F _) (by simp) ?_;intro w6 U a2 T6;have q4:=U.at_ 4;have f4:=U.fz 4;have W:=U.Vr 4 g;rw[a1] at W;simp only[Yp,Hd.Ea] at q4 f4 W;have u:Below F.1.size F (w6.setCell ⟨F.1.size,4,none⟩ (.int .i64 g)):=((Qm).trans (a2 _ (Nat.le_refl _))).trans ((Below.refl _ w6).setCell (p:=⟨F.1.size,4,none⟩) (Nat.le_refl _) _);have K:=J.sl.below u;have a8:=I.below u I.1)
  |(refine q5t rfl _ rfl _ rfl _ W ?_)
  |(go_at_call 84;refine (q5u H1 A3 n3 c3 Z _ K a8).mono ?_;rw[X.out,Y.out];rintro e w8 ⟨A8,n8,c8,rfl,M,a7,a6⟩)
  |fail)
 obtain⟨q,rfl,rfl,rfl⟩:=a7 (by first|trivial|rfl);have y:=D.trans (u.mono D.size);go_ret;exact⟨q,rfl,M.less y.size,y.trans (a6.mono y.size)⟩
theorem Y9.below {w w':World}{d:Nat}{S:Nat->Prop}{D:DM}(L:Y9 w d S D)(hb:Below w.1.size w w'):Y9 w' d S D:=L.keep λk b _=>hb.block k b
theorem Y9.Qb {w:World}{d:Nat}{S:Nat->Prop}{D:DM}(L:Y9 w d S D):Go.Proofs.YtnnbaihfboacoaaGreatDoor.Qb D.n:=by
 obtain⟨b,e,l,clock,v,L⟩:=L;exact L.n32
structure Df (w0 w:World)(d:Nat)(S:Nat->Prop)(D:DM):Prop where
 U8:Y9 w d (λk=>S k\/w0.heap.size<=k) D
 turn:Turn S w0 w
theorem Y9.dsk {w:World}{d:Nat}{S:Nat->Prop}{D:DM}(L:Y9 w d S D):Df w w d S D:=⟨L.mono λ_ _ h=>.inl h,Turn.refl _ _⟩
theorem Df.below {w0 w w':World}{d:Nat}{S:Nat->Prop}{D:DM}(L:Df w0 w d S D)(hb:Below w.1.size w w'):Df w0 w' d S D:=⟨L.U8.below hb,L.turn.trans (Qv hb) λ_ b=>.inl b⟩
theorem q1v {y w:World}{d:Nat}{S:Nat->Prop}{D:DM}(L:Df y w d S D){m:Nat}(f:D.Ya m)(hm:m<=900000)(s:Nat)(z:Int)(u:z=(s:Int))(A:Option Addr)(n c:Nat)(x:List UInt8)(h:Sl w A n c x) :
  Calls Tryz.prog 80 #[.pointer (some ⟨d,0,none⟩),.int .i64 z,.slice A n c] w λe w'=>e=.returned (.int .i64 (D.says (.w s x)))/\Df y w' d S (D.does (.w s x)):=by
 subst u;refine (qrr L.U8 (s:Int) A n c x h (by have:=f.steps;omega) λk=>by have:=f.rows k;omega).mono ?_;rintro e w' ⟨rfl,R,T⟩;have u:=L.turn.size;exact⟨rfl,R.mono λk _ b=>b.elim id λh=>.inr (by omega),L.turn.trans T λk b=>b⟩
theorem q3k {f w:World}{d:Nat}{S:Nat->Prop}{D:DM}(L:Df f w d S D){m:Nat}(b:D.Ya m)(hm:m<=900000) :
  Calls Tryz.prog 81 #[.pointer (some ⟨d,0,none⟩)] w λe w'=>e=.returned (.int .i64 (D.says .fl))/\Df f w' d S (D.does .fl):=by
 refine (qnm L.U8 (by have:=b.steps;omega) λk=>by have:=b.rows k;omega).mono ?_;rintro e w' ⟨rfl,R,T⟩;exact⟨rfl,R,L.turn.trans T λk u=>u⟩
def DM.Xp (D:DM)(l:List Stp):Bool:=decide (D.Zy l=0)
theorem qm0 {w:World}{d:Nat}{S:Nat->Prop}{D:DM}(L:Y9 w d S D){m:Nat}(ht:D.Ya m)(hm:m<=800000) :
  Calls Tryz.prog 48 #[.pointer (some ⟨d,0,none⟩)] w λe w'=>e=.returned (.bool (D.Xp (Vf D.n)))/\Df w w' d S (D.Qk (Vf D.n)):=by
 have L0:=L.dsk;have hA:Vf D.n=[.w 0 q13,.w 1 q13]++[.fl]:=rfl;have hw:∀j,j<2->([.w 0 q13,.w 1 q13]:List Stp).take (j+1)=([.w 0 q13,.w 1 q13]:List Stp).take j++[.w j q13]:=λj hj=>by
  rcases (show j=0\/j=1 by omega) with e|e<;>subst e<;>rfl
 obtain⟨u,J⟩:∃W:List Stp,[.w 0 q13,.w 1 q13]=W:=⟨_,rfl⟩;rw[J] at hA hw;have X:u.length=2:=by rw[<-J];rfl
 have HA:=Lib.hid hA;have HW:=Lib.hid hw;have HL:=Lib.hid X;clear hA hw J X;go_enter Tryz.func48,Tryz.ntmps48
 go_wp2_with fail
 go_loopw [3,4] (λ_ i wr=>∃j:Nat,j<=2/\i=.int .i64 (j:Int)/\D.Zy (u.take j)=0/\Df w wr d S (D.Qk (u.take j))) (λ_ i _=>2-(intOf i).toNat)
 case atStart=>exact⟨0,by omega,rfl,rfl,L0⟩
 case round=>
  clear L0;obtain⟨j,hj,rfl,hE,Z⟩:=hrel;have G:=q3c (u.take j) ht;have a6:(u.take j).length<=2:=by rw[List.length_take];omega
  obtain⟨H,I⟩:∃H,D.Qk (u.take j)=H:=⟨_,rfl⟩;rw[I] at Z G;have B:=Lib.hid I;have Y:=Lib.hid hE;clear I hE;by_cases a2:j<2
  ·have e3:(j:Int)<2:=by omega
   have M:=Lib.hid (HW.out j a2);have R:=Lib.hid (show D.Zy (u.take (j+1))=H.says (.w j q13) by rw[M.out,q6o,if_pos Y.out,B.out]);have Q:=Lib.hid (show D.Qk (u.take (j+1))=H.does (.w j q13) by rw[M.out,q6p,if_pos Y.out,B.out]);obtain⟨E,U⟩:∃E,H.says (.w j q13)=E:=⟨_,rfl⟩;have F:=Lib.hid U;clear U;by_cases h0:E=0
   ·have nb:(E != 0)=false:=by simpa using h0
    have H0:=Lib.hid h0;clear h0;go_wp2_with (first
     |(at_make;refine q77 _ Gy rfl _ _ rfl _ _ 256 rfl rfl (by omega) ?_;intro w3 A K;have L3:=Z.below K)
     |(go_at_call 80;refine (q1v L3 G (by omega) j _ rfl _ 256 256 q13 A.sl).mono ?_;rw[F.out];rintro e w4 ⟨rfl,O⟩)
     |fail)
    exact⟨⟨j+1,by omega,by go_num,R.out.trans (F.out.trans H0.out),by rw[Q.out];exact O⟩,by simp[intOf];omega⟩
   ·have nb:(E != 0)=true:=by simpa using h0
    have f:D.Zy (u.take (j+1))≠0:=λh=>h0 (F.out.symm.trans (R.out.symm.trans h))
    have y:Vf D.n=u.take (j+1)++(u.drop (j+1)++[.fl]):=by rw[HA.out,<-List.append_assoc,List.take_append_drop]
    obtain⟨r1,r2⟩:=q2z (l':=u.drop (j+1)++[.fl]) f;have R1:=Lib.hid (show D.Xp (Vf D.n)=false by unfold DM.Xp;rw[y,r1];exact decide_eq_false f);have R2:=Lib.hid (show D.Qk (Vf D.n)=H.does (.w j q13) by rw[y,r2,Q.out]);clear y r1 r2 f h0;go_wp2_with (first
     |(at_make;refine q77 _ Gy rfl _ _ rfl _ _ 256 rfl rfl (by omega) ?_;intro w3 A K;have L3:=Z.below K)
     |(go_at_call 80;refine (q1v L3 G (by omega) j _ rfl _ 256 256 q13 A.sl).mono ?_;rw[F.out];rintro e w4 ⟨rfl,O⟩)
     |fail)
    go_ret;exact⟨by rw[R1.out];rfl,by rw[R2.out];exact O⟩
  ·have a1:j=2:=by omega
   subst a1;have b:u.take 2=u:=List.take_of_length_le (by rw[HL.out];exact Nat.le_refl _);have R1:=Lib.hid (show D.Xp (Vf D.n)=decide (H.says .fl=0) by unfold DM.Xp;rw[HA.out,q6o,<-b,if_pos Y.out,B.out]);have R2:=Lib.hid (show D.Qk (Vf D.n)=H.does .fl by rw[HA.out,q6p,<-b,if_pos Y.out,B.out]);clear b;go_wp2_with (first
    |(go_at_call 81;refine (q3k Z G (by omega)).mono ?_;rintro e w4 ⟨rfl,O⟩)
    |fail)
   go_ret;exact⟨by rw[R1.out];rfl,by rw[R2.out];exact O⟩
section
theorem Tab.turned {w w':World}{S:Nat->Prop}(h:Tab w)(T:Turn S w w')(hS:¬S 1):Tab w':=
 ⟨Nat.lt_of_lt_of_le h.1 T.size,λk b=>(World.cell?_of_block (a:=⟨1,k,none⟩) (T.block _ h.1 hS)).trans (h.2 k b)⟩
theorem Y9.tight {w:World}{d:Nat}{S:Nat->Prop}{D:DM}(L:Y9 w d S D):Y9 w d (λk=>S k/\k<w.1.size) D:=L.mono λ_ h1 h2=>⟨h2,h1⟩
theorem Df.from {w0 w1 w:World}{d:Nat}{S:Nat->Prop}{D:DM}(L:Df w1 w d (λk=>S k/\k<w0.1.size) D)(b:Below w0.1.size w0 w1):Df w0 w d S D:=
 ⟨L.U8.mono λk _ e=>e.elim (λh=>.inl h.1) λh=>.inr (by have:=b.size;omega),(Qv b |>.mono (S':=S) λ_ h=>h).trans L.turn λ_ e=>.inl e.1⟩
def Vp (C:Ct)(S:Sp):List Stp:=Uo (Dx (Qo C.n S.gen) (Y4 C S.gen)) (S.gen % 2).toNat (swB S (S.gen % 2))
theorem q5h (D:DM)(a:Stp)(l:List Stp):D.Zy (a::l)=(if D.says a=0 then (D.does a).Zy l else D.says a)/\D.Qk (a::l)=(if D.says a=0 then (D.does a).Qk l else D.does a):=⟨rfl,rfl⟩
theorem qst {D:DM}{A:List Stp}(slot:Nat)(b:List UInt8)(h:D.Zy A=0):D.Zy (Uo A slot b)=(D.Qk A).Zy [.fl,.w slot b,.fl]/\D.Qk (Uo A slot b)=(D.Qk A).Qk [.fl,.w slot b,.fl]:=by
 unfold Uo;rw[q2v,q2w,if_pos h,if_pos h];exact⟨rfl,rfl⟩
theorem qok (D:DM)(a:Stp):D.Zy [a]=D.says a/\D.Qk [a]=D.does a:=by
 rw[(q5h D a []).1,(q5h D a []).2];constructor
 ·split
  ·rename_i h;exact h.symm
  ·rfl
 ·split<;>rfl
attribute [local go_sem ↓] q1n
theorem qa0 {w:World}{d pc o:Nat}{S0 Sc:Nat->Prop}{D:DM}{C:Ct}(L:Y9 w d S0 D)(H:Yt w pc o Sc C)(c8:∀k,S0 k->k≠pc/\¬Sc k)(hG:¬S0 1)(S:Sp)(a1:S.may=true)(X:S.fine)(c7:S.Qb=(C.n:Int))(ht:Tab w){m:Nat}(g9:D.Ya m)(hm:m<=800000) :
  Calls Tryz.prog 51 #[.pointer (some ⟨d,0,none⟩),.agg S.vs.toArray,.pointer (some ⟨pc,o,none⟩)] w λe w'=>e=.returned (.bool (D.Xp (Vp C S)))/\Df w w' d S0 (D.Qk (Vp C S)):=by
 have d8:=H.ok.1;have Z:=(q12 a1).1;have hg:Kv S.gen:=⟨Z.1,Z.2.1⟩;obtain⟨g,f⟩:∃g,S.gen=g:=⟨_,rfl⟩;rw[f] at hg;obtain⟨ar,y⟩:∃m,Qe C.n=m:=⟨_,rfl⟩;have i4:ar<=18:=by unfold Qe at y;omega
 obtain⟨t,e0⟩:∃t,(g % 2).toNat=t:=⟨_,rfl⟩;have b:g % 2=(t:Int):=by have:=hg.1;omega
 have j8:t<2:=by omega
 have i6:g.tmod 2=(t:Int):=by rw[Int.tmod_eq_emod_of_nonneg (by have:=hg.1;omega)];exact b
 obtain⟨a,ha⟩:∃a,Qo C.n g=a:=⟨_,rfl⟩;have i8:a<=40:=by
  rw[<-ha];unfold Qo;rw[y,e0];rcases (show t=0\/t=1 by omega) with e|e<;>rw[e]<;>omega
 obtain⟨sb,d9⟩:∃x,swB S (t:Int)=x:=⟨_,rfl⟩;have a7:Xq S (t:Int)=true:=by unfold Xq;rw[a1,Bool.true_and];exact decide_eq_true ⟨by omega,by omega⟩
 have d0:=(ql9 a7).1;obtain⟨W,hW⟩:∃W,Dx (Qo C.n S.gen) (Y4 C S.gen)=W:=⟨_,rfl⟩;have c9:Vp C S=Uo W t sb:=by unfold Vp;rw[hW,f,b,d9,<-b,e0]
 have f1:W.length=ar:=by rw[<-hW,qdj,q1h,y]
 have f2:∀j,j<ar->W.take (j+1)=W.take j++[.w (a+j) (Zr (Uh C.n g j) (C.body (j:Int)))]:=λj hj=>by
  rw[<-hW,qsf _ _ (by rw[q1h,y];exact hj),qdk _ _ (by rw[y];exact hj),f,ha]
 have a2:∀j,j<ar->Xi ⟨2,((a+j:Nat):Int),0,0,g⟩ (C.body (j:Int))=0/\Xo ⟨2,((a+j:Nat):Int),0,0,g⟩ (C.body (j:Int))=Zr (Uh C.n g j) (C.body (j:Int)):=λj hj=>by
  have g0:=qnt d8.1 d8.2 hg (i:=j) (by rw[y];exact hj);have f3:=Ct.Ug (C:=C) (i:=j) (by rw[y];exact hj);have g5:Uh C.n g j=⟨2,((a+j:Nat):Int),0,0,g⟩:=by unfold Uh;rw[ha]
  rw[<-g5];unfold Xi Xo;rw[if_pos g0,if_pos g0,if_pos (by rw[f3];exact Nat.le_refl _),if_pos (by rw[f3];exact Nat.le_refl _)];exact⟨rfl,rfl⟩
 have hA:=qfs S C.n c7 d8.2 ⟨by rw[f];have:=hg.1;omega,by rw[f];have:=hg.2;omega⟩;rw[f,ha,y] at hA;have HA:=Lib.hid hA;have HS:=Lib.hid c9;have e5:=Lib.hid f1;have g4:=Lib.hid f2;have d4:=Lib.hid a2;have i7:=Lib.hid b;have e7:=Lib.hid d9;have e9:=Lib.hid d0;have i3:=Lib.hid a7;have K:=Lib.hid X;have b9:=Lib.hid c8;have g3:=Lib.hid hG;have X1:=SB.new w S 98;have b1:Below w.1.size w (w.alloc (.cells S.vs.toArray 98)):=Qm;have M:=L.tight.below b1;have H1:=H.below b1;have t1:=ht.below b1 ht.1;have i9:=H.lt;have j9:=ht.1;clear hA c9 hW f1 f2 a2 Z b d9 d0 a7 X ha c7 c8 hG a1 e0 hg L ht H;have g1:=X1.ld;go_enter Tryz.func51,Tryz.ntmps51
 go_wp2_with fail
 generalize w.alloc (.cells S.vs.toArray 98)=w1 at b1 M H1 t1 X1 g1 ⊢;refine (HA.out w1).mono ?_;rintro e w2 ⟨rfl,b2⟩;have L2:=M.below b2;have H2:=H1.below b2;have t2:=t1.below b2 t1.1;have X2:=X1.below b2 X1.lt;have B2:=b1.trans (b2.mono b1.size);have i0:w.1.size<w2.1.size:=X2.lt;clear g1 M H1 t1 X1 b1 b2;have L0:=L2.dsk;have a6:∀wr,Turn (λk=>S0 k/\k<w.1.size) w2 wr->SB wr w.1.size S/\Yt wr pc o Sc C/\Tab wr:=λwr T=>
  ⟨X2.block (T.block _ i0 (λh=>by have:=h.2;omega)),H2.keep (T.block pc (by omega) λh=>(b9.out pc h.1).1 rfl) (λk hk hs=>T.block k hk λh=>(b9.out k h.1).2 hs),t2.turned T λh=>g3.out h.1⟩
 have e8:=Lib.hid a6;clear a6 X2 H2 t2 L2;go_wp2_with fail
 go_loopw [9,10,11,21] (λ_ _ _ i wr=>∃j:Nat,j<=ar/\i=.int .i64 (j:Int)/\D.Zy (W.take j)=0/\Df w2 wr d (λk=>S0 k/\k<w.1.size) (D.Qk (W.take j))) (λ_ _ _ i _=>ar-(intOf i).toNat)
 case atStart=>exact⟨0,by omega,rfl,rfl,L0⟩
 case round=>
  clear L0;obtain⟨j,hj,rfl,hE,M⟩:=hrel;have J:=q3c (W.take j) g9;have i5:(W.take j).length<=18:=by rw[List.length_take,e5.out];omega
  obtain⟨D1,d6⟩:∃D1,D.Qk (W.take j)=D1:=⟨_,rfl⟩;rw[d6] at M J;have d1:=Lib.hid d6;have HE:=Lib.hid hE;obtain⟨X3,H3,t3⟩:=e8.out wr M.turn;clear d6 hE;by_cases g2:j<ar
  ·have e3:(j:Int)<(ar:Int):=by omega
   have e6:=Lib.hid (g4.out j g2);obtain⟨s1,s2⟩:=d4.out j g2;obtain⟨x,hx⟩:∃x,Zr (Uh C.n g j) (C.body (j:Int))=x:=⟨_,rfl⟩;rw[hx] at s2;obtain⟨s,hs⟩:∃s,a+j=s:=⟨_,rfl⟩;rw[hs] at s1 s2;have j0:(a:Int)+(j:Int)=(s:Int):=by omega
   have j7:s<=100:=by omega
   have G:=Lib.hid (show D.Zy (W.take (j+1))=D1.says (.w s x) by rw[e6.out,q6o,if_pos HE.out,d1.out,hx,hs]);have u:=Lib.hid (show D.Qk (W.take (j+1))=D1.does (.w s x) by rw[e6.out,q6p,if_pos HE.out,d1.out,hx,hs]);have S1:=Lib.hid s1;have S2:=Lib.hid s2;have q0:=X3.c0;rw[f] at q0;obtain⟨E,f0⟩:∃E,D1.says (.w s x)=E:=⟨_,rfl⟩;have b3:=Lib.hid f0;clear f0 hx hs s1 s2;by_cases h0:E=0
   ·have nb:(E != 0)=false:=by simpa using h0
    have H0:=Lib.hid h0;clear h0;go_wp2_with (first
     |(go_at_call 85;refine (q6q _ g wr).mono ?_;rintro e w4 ⟨rfl,O⟩;have H4:=H3.below O;have t4:=t3.below O t3.1)
     |(go_at_call 86;refine (qfq H4 (j:Int)).mono ?_;rintro e w5 ⟨V,n5,c5,rfl,s5,Q,_⟩;have t5:=t4.below Q t4.1)
     |(go_at_call 84;refine (q5u ⟨2,(s:Int),0,0,g⟩ V n5 c5 _ w5 s5 t5).mono ?_;rw[S1.out,S2.out];rintro e w6 ⟨A6,n6,c6,rfl,b0,g6,b6⟩;have L6:=M.below (O.trans ((Q.mono O.size).trans (b6.mono (Nat.le_trans O.size Q.size)))))
     |(go_at_call 80;refine (q1v L6 J (by omega) s _ rfl A6 n6 c6 x b0.sl).mono ?_;rw[b3.out];rintro e w7 ⟨rfl,L7⟩)
     |fail)
    exact⟨⟨j+1,by omega,by go_num,G.out.trans (b3.out.trans H0.out),by rw[u.out];exact L7⟩,by simp[intOf];omega⟩
   ·have nb:(E != 0)=true:=by simpa using h0
    have I:D.Zy (W.take (j+1))≠0:=λh=>h0 (b3.out.symm.trans (G.out.symm.trans h))
    have U:Vp C S=W.take (j+1)++(W.drop (j+1)++.fl::[.w t sb,.fl]):=by rw[HS.out];unfold Uo;rw[<-List.append_assoc,List.take_append_drop]
    obtain⟨B,F⟩:=q2z (l':=W.drop (j+1)++.fl::[.w t sb,.fl]) I;have R1:=Lib.hid (show D.Xp (Vp C S)=false by unfold DM.Xp;rw[U,B];exact decide_eq_false I);have R2:=Lib.hid (show D.Qk (Vp C S)=D1.does (.w s x) by rw[U,F,u.out]);clear U B F I h0;go_wp2_with (first
     |(go_at_call 85;refine (q6q _ g wr).mono ?_;rintro e w4 ⟨rfl,O⟩;have H4:=H3.below O;have t4:=t3.below O t3.1)
     |(go_at_call 86;refine (qfq H4 (j:Int)).mono ?_;rintro e w5 ⟨V,n5,c5,rfl,s5,Q,_⟩;have t5:=t4.below Q t4.1)
     |(go_at_call 84;refine (q5u ⟨2,(s:Int),0,0,g⟩ V n5 c5 _ w5 s5 t5).mono ?_;rw[S1.out,S2.out];rintro e w6 ⟨A6,n6,c6,rfl,b0,g6,b6⟩;have L6:=M.below (O.trans ((Q.mono O.size).trans (b6.mono (Nat.le_trans O.size Q.size)))))
     |(go_at_call 80;refine (q1v L6 J (by omega) s _ rfl A6 n6 c6 x b0.sl).mono ?_;rw[b3.out];rintro e w7 ⟨rfl,L7⟩)
     |fail)
    go_ret;exact⟨by rw[R1.out];rfl,by rw[R2.out];exact L7.from B2⟩
  ·have g7:j=ar:=by omega
   subst g7;have Y:W.take j=W:=List.take_of_length_le (by rw[e5.out];exact Nat.le_refl _);have d7:=HE.out;have d5:=d1.out;rw[Y] at d7 d5;obtain⟨B,F⟩:=qst (D:=D) (A:=W) t sb d7;rw[d5,<-HS.out] at B F;have e3:¬(j:Int)<(j:Int):=by omega
   have b8:=q6n J .fl;obtain⟨E1,G⟩:∃E,D1.says .fl=E:=⟨_,rfl⟩;obtain⟨D2,u⟩:∃E,D1.does .fl=E:=⟨_,rfl⟩;rw[u] at b8;rw[(q5h _ _ _).1,G,u] at B;rw[(q5h _ _ _).2,G,u] at F;have d3:=Lib.hid G;have d2:=Lib.hid u;clear G u d7 d5 Y;by_cases h1:E1=0
   ·have i1:(E1 != 0)=false:=by simpa using h1
    rw[if_pos h1] at B F;have f9:=q6n b8 (.w t sb);obtain⟨E2,b7⟩:∃E,D2.says (.w t sb)=E:=⟨_,rfl⟩;obtain⟨D3,R⟩:∃E,D2.does (.w t sb)=E:=⟨_,rfl⟩;rw[R] at f9;rw[(q5h _ _ _).1,b7,R] at B;rw[(q5h _ _ _).2,b7,R] at F;have e4:=Lib.hid b7;have e2:=Lib.hid R;clear b7 R h1;have q0:=X3.c0;rw[f] at q0;have f4:=Lib.hid (λ(w':World) (l':Df w2 w' d (λk=>S0 k/\k<w.1.size) D2)=>e8.out w' l'.turn);by_cases h2:E2=0
    ·rw[if_pos h2,(qok _ _).1] at B;rw[if_pos h2,(qok _ _).2] at F;have i2:(E2==0)=true:=by simpa using h2
     have R1:=Lib.hid (show D.Xp (Vp C S)=decide (D3.says .fl=0) by unfold DM.Xp;rw[B]);have R2:=Lib.hid F;clear B F h2;go_wp2_with (first
      |(go_at_call 81;refine (q3k M J (by omega)).mono ?_;rw[d3.out,d2.out];rintro e w4 ⟨rfl,L4⟩;obtain⟨X4,H4,t4⟩:=f4.out w4 L4;have e1:=X4.c0;rw[f] at e1;have g8:=X4.ld)
      |(go_at_call 87;refine (q8e S (t:Int) K.out w4 t4).mono ?_;rw[e9.out,e7.out];rintro e w5 ⟨A5,n5,c5,rfl,a8,_,Q⟩;have L5:=L4.below Q)
      |(go_at_call 80;refine (q1v L5 b8 (by omega) t _ rfl A5 n5 c5 sb a8.sl).mono ?_;rw[e4.out,e2.out];rintro e w6 ⟨rfl,L6⟩)
      |(go_at_call 81;have hh:=L6;refine (q3k L6 f9 (by omega)).mono ?_;rintro e w7 ⟨rfl,L7⟩)
      |fail)
     go_ret;exact⟨by rw[R1.out];rfl,by rw[R2.out];exact L7.from B2⟩
    ·rw[if_neg h2] at B F;have i2:(E2==0)=false:=by simpa using h2
     have R1:=Lib.hid (show D.Xp (Vp C S)=false by unfold DM.Xp;rw[B];exact decide_eq_false h2);have R2:=Lib.hid F;clear B F h2;go_wp2_with (first
      |(go_at_call 81;refine (q3k M J (by omega)).mono ?_;rw[d3.out,d2.out];rintro e w4 ⟨rfl,L4⟩;obtain⟨X4,H4,t4⟩:=f4.out w4 L4;have e1:=X4.c0;rw[f] at e1;have g8:=X4.ld)
      |(go_at_call 87;refine (q8e S (t:Int) K.out w4 t4).mono ?_;rw[e9.out,e7.out];rintro e w5 ⟨A5,n5,c5,rfl,a8,_,Q⟩;have L5:=L4.below Q)
      |(go_at_call 80;refine (q1v L5 b8 (by omega) t _ rfl A5 n5 c5 sb a8.sl).mono ?_;rw[e4.out,e2.out];rintro e w6 ⟨rfl,L6⟩)
      |fail)
     go_ret;exact⟨by rw[R1.out];rfl,by rw[R2.out];exact L6.from B2⟩
   ·have i1:(E1 != 0)=true:=by simpa using h1
    rw[if_neg h1] at B F;have R1:=Lib.hid (show D.Xp (Vp C S)=false by unfold DM.Xp;rw[B];exact decide_eq_false h1);have R2:=Lib.hid F;clear B F h1;go_wp2_with (first
     |(go_at_call 81;refine (q3k M J (by omega)).mono ?_;rw[d3.out,d2.out];rintro e w4 ⟨rfl,L4⟩)
     |fail)
    go_ret;exact⟨by rw[R1.out];rfl,by rw[R2.out];exact L4.from B2⟩
end
theorem qjm {l:List UInt8}{slot:Int}(h:Xm l slot=true):(Gf l slot).may=true:=by
 rw[(qja h).1];unfold Xm at h;rw[Bool.and_eq_true,Bool.and_eq_true] at h;have:=h.2.1;unfold Xq at this;rw[Bool.and_eq_true] at this;exact this.1
theorem qxs {a b:List UInt8}(h:Fg a b=0):(snS a b).may=true:=by
 by_cases h1:Xm a 0=false/\Xm b 1=false
 ·rw[(Qcg h1.1 h1.2).2.2] at h
  cases h
 ·by_cases h2:(Gf a 0).gen<(Gf b 1).gen
  ·rw[(Qbo h1 h2).1]
   cases f:Xm b 1
   ·cases e:Xm a 0
    ·exact absurd ⟨e,f⟩ h1
    ·have u:=(q12 (qjm e)).1.1;rw[(qhk f).1] at h2;have:Sp.zero.gen=0:=rfl;omega
   ·exact qjm f
  ·rw[(Qbn h1 h2).1]
   cases e:Xm a 0
   ·cases f:Xm b 1
    ·exact absurd ⟨e,f⟩ h1
    ·have u:=(q12 (qjm f)).1.1;rw[(qhk e).1] at h2;have:Sp.zero.gen=0:=rfl;omega
   ·exact qjm e
theorem qdw {S:Sp}(h:S.may=true):S.fine:=λk b=>by
 have:=q7d h k b;unfold maxLen;omega
theorem qsx {n:Nat}{e:List (List UInt8)}(h:Xf (n:Int) e=0):(32<=n/\n<=2048)/\e.length=Qe n/\∀i,i<Qe n->q57 n (2+2*Qe n) i (nth e i):=by
 unfold Xf at h;split at h
 ·cases h
 ·rename_i h1;have h1:=Decidable.of_not_not h1;rw[Int.toNat_natCast] at h;split at h
  ·cases h
  ·rename_i h2;refine⟨by omega,?_,?_⟩
   ·exact Classical.byContradiction λb=>h2 (.inl b)
   ·exact Classical.byContradiction λb=>h2 (.inr b)
theorem qhr (n:Nat)(b:List (List UInt8)):(Vu n b).n=n:=qb8 _ _ _
theorem qxt {n:Nat}{b:List (List UInt8)}(h:Xf (n:Int) b=0):(Vu n b).res:=by
 obtain⟨h1,h2,A⟩:=qsx h;intro a y u;rw[qhr] at y;have D:a<2+2*Qe n:=by unfold Ct.first at u;rw[qhr] at u;exact u
 have e:nm (Vu n b).now a=nm (Y2 n b (Qe n)).now a:=rfl;rw[e,qb9 n b (Qe n) a y];split
 ·rename_i F;have E:a / 118<Qe n:=by omega
  have f:=(A _ E).2 (a % 118) (Nat.mod_lt _ (by omega));unfold Yy at f;have f:=of_decide_eq_false f;exact Classical.byContradiction λB=>f ⟨B,.inl (by omega)⟩
 ·rfl
