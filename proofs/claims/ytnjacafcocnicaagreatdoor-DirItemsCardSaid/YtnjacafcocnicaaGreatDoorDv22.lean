/- The code's pool, plain facts: new blocks as they are kept (of generation 0), and dated -/
import Derived.Test.YtnjacafcocnicaaGreatDoorDv17
import Derived.Test.YtnjacafcocnicaaGreatDoorDv19
import Derived.Test.YtnjacafcocnicaaGreatDoorDv21
import Derived.Lib.SliceRun
namespace Go.Proofs.YtnjacafcocnicaaGreatDoor
open Go Go.RowKit Go.Proofs Tryz
set_option maxHeartbeats 8000000
set_option maxRecDepth 100000
def Em (g:Int):Prop:=0<=g/\g<=1099511627775
theorem qr8 {g:Int}(h:Wy g):Em g:=⟨Int.le_trans (by omega) h.1,h.2⟩
theorem q2h:Em 0:=⟨by omega,by omega⟩
def Bk.hd (b:Bk)(a:Nat)(g:Int):Hd:=match b with
 |.node N=>N.head (a:Int) g
 |.bytes k l=>Rt k a l.length g
def Bk.body (b:Bk):LU:=match b with
 |.node N=>N.body
 |.bytes _ l=>l
structure Bk.good (b:Bk):Prop where
 hd:∀(a:Nat) (g:Int),a<=2047->Em g->(b.hd a g).ok=true
 body:b.body.length<=236
 out:∀(a:Nat) (g:Int),a<=2047->Em g->b.out a g=Zn (b.hd a g) b.body
theorem Bk.good.len {b:Bk}(h:b.good){a:Nat}{g:Int}(ha:a<=2047)(hg:Em g):(b.out a g).length=256:=by
 rw[h.out a g ha hg];exact q7h _ _ h.body
theorem Bk.good.fine {b:Bk}(h:b.good):b.fine:=λ_ _ e f=>h.len e (qr8 f)
theorem qlq (b:Bk)(a:Nat)(g e:Int):b.hd a e=⟨(b.hd a g).kind,(b.hd a g).addr,(b.hd a g).count,(b.hd a g).level,e⟩:=by
 cases b<;>rfl
theorem Bk.good.opens {b:Bk}(h:b.good){a:Nat}{g:Int}(ha:a<=2047)(hg:Em g):Yz (b.out a g)=b.hd a g/\U8 (b.out a g)=b.body++List.replicate (236-b.body.length) 0/\Nv (b.out a g)=0:=by
 rw[h.out a g ha hg];exact q5a _ _ (h.hd a g ha hg) h.body
theorem Bk.good.dates {b:Bk}(h:b.good){a:Nat}{g:Int}(ha:a<=2047)(hg:Em g):Xr (b.hd a g) (b.body++List.replicate (236-b.body.length) 0)=0/\Xw (b.hd a g) (b.body++List.replicate (236-b.body.length) 0)=b.out a g:=by
 have e:(b.body++List.replicate (236-b.body.length) (0:UInt8)).length<=236:=by
  have:=h.body;rw[AD,BK];omega
 unfold Xr Xw;rw[AA (h.hd a g ha hg),AA (h.hd a g ha hg),AA e,AA e,h.out a g ha hg];refine⟨rfl,(qr4 _ _ _ (qqq _) ?_).symm⟩;have:=h.body;rw[BK];omega
def Qar (k:Int):Option Nat:=if k=5 then some 128 else if k=6 then some 236 else none
theorem qob {k:Int}{m:Nat}(h:Qar k=some m):(k=5\/k=6)/\m<=236:=by
 unfold Qar at h;split at h
 ·cases h;exact⟨.inl (by assumption),by omega⟩
 ·split at h
  ·cases h;exact⟨.inr (by assumption),by omega⟩
  ·cases h
def Pl.live (P:Pl)(a:Nat):Option Bk:=if P.C.get (a:Int)=0 then none else P.L a
theorem qr9 (P:Pl)(a:Nat):P.Me a=(P.live a).map λb=>(a,b.out a P.g):=by
 unfold Pl.Me Pl.live;split
 ·rename_i b e;rw[e];split<;>rfl
 ·rename_i e;rw[e];split<;>rfl
structure DM.Ya (D:DM)(m:Nat):Prop where
 steps:D.steps<=m
 rows:∀s,(D.Zq s).length<=m
theorem DM.Ya.mono {D:DM}{m m':Nat}(h:D.Ya m)(hm:m<=m'):D.Ya m':=⟨AZ h.steps hm,λs=>AZ (h.rows s) hm⟩
theorem qlr (n:Nat):(DM.mk0 n).Ya 0:=⟨AE _,λ_=>AE _⟩
theorem q5f {D:DM}{m:Nat}(h:D.Ya m):D.stepD.Ya (m+1):=by
 refine⟨?_,λs=>AZ (h.rows s) (by omega)⟩;have:=h.steps;show (if D.stop then D.steps else D.steps+1)<=m+1;split<;>omega
theorem qoc {D:DM}{m:Nat}(h:D.Ya m)(s:Int)(x:LU):(D.Y6 s x).Ya (m+1):=by
 unfold DM.Y6;split
 ·exact h.mono (by omega)
 ·split
  ·exact q5f h
  ·refine⟨(q5f h).steps,λt=>?_⟩;show (upd D.Zq s.toNat (D.Zq s.toNat++[x]) t).length<=m+1;unfold upd;split
   ·have:=h.rows s.toNat;rw[AD];simp;omega
   ·exact AZ (h.rows t) (by omega)
theorem qod {D:DM}{m:Nat}(h:D.Ya m):D.Wx.Ya (m+1):=by
 unfold DM.Wx;split
 ·exact q5f h
 ·exact⟨(q5f h).steps,λ_=>AW _⟩
theorem q74 {D:DM}{m:Nat}(h:D.Ya m)(a:Stp):(D.does a).Ya (m+1):=by
 cases a with
 |w s x=>exact qoc h s x
 |fl=>exact qod h
theorem q3j:∀(l:List Stp) {D:DM} {m:Nat},D.Ya m->(D.Qj l).Ya (m+l.length)
 |[],_,_,h=>h
 |a::l,D,m,h=>by
  show (if D.says a=0 then (D.does a).Qj l else D.does a).Ya (m+(l.length+1));split
  ·exact (q3j l (q74 h a)).mono (by omega)
  ·exact (q74 h a).mono (by omega)
theorem qyw (D:DM)(a:Stp):(D.does a).n=D.n:=by
 cases a with
 |w s x=>show (D.Y6 s x).n=D.n;unfold DM.Y6;split;rfl;split<;>rfl
 |fl=>show D.Wx.n=D.n;unfold DM.Wx;split<;>rfl
theorem qA6:∀(l:List Stp) (D:DM),(D.Qj l).n=D.n
 |[],_=>rfl
 |a::l,D=>by
  show (if D.says a=0 then (D.does a).Qj l else D.does a).n=D.n;split
  ·rw[qA6 l,qyw]
  ·exact qyw D a
theorem q75 (l:List Stp)(a:Stp)(D:DM):D.Zv (l++[a])=if D.Zv l=0 then (D.Qj l).says a else D.Zv l:=by
 rw[q32];split
 ·show (if (D.Qj l).says a=0 then (0:Int) else (D.Qj l).says a)=_;split
  ·rename_i h;exact h.symm
  ·rfl
 ·rfl
theorem q76 (l:List Stp)(a:Stp)(D:DM):D.Qj (l++[a])=if D.Zv l=0 then (D.Qj l).does a else D.Qj l:=by
 rw[q33];split
 ·show (if (D.Qj l).says a=0 then (D.Qj l).does a else (D.Qj l).does a)=_;split<;>rfl
 ·rfl
theorem q37 {l l':List Stp}{D:DM}(h:D.Zv l≠0):D.Zv (l++l')=D.Zv l/\D.Qj (l++l')=D.Qj l:=by
 rw[q32,q33,AB h,AB h];exact⟨rfl,rfl⟩
section
open Go.ChangeMaps (setBlock)
structure PH (cur:Array Value)(d m:Nat)(S:Sp):Prop where
 size:cur.size=41
 disk:cur[0]?=some (.pointer (some ⟨d,0,none⟩))
 sup:∀(j:Nat) x,S.vs[j]?=some x->cur[1+j]?=some x
 fresh:cur[40]?=some (.map (some m))
structure PL (w:WD)(p d m:Nat)(cur:Array Value)(l:List MapEntry)(clock:Nat)(v:Nat->Value)(Sc S T:NP)(P:Pl):Prop where
 me:w.heap[p]?=some (.cells cur 113 (0,0))
 ph:PH cur d m P.S
 ct:Y1 w p 36 Sc P.C
 map:w.heap[m]?=some (.map l.toArray clock)
 ents:Uo l clock
 look:∀a:Nat,Zf a l=(P.live a).map λ_=>v a
 keys:∀e∈l,∃a:Nat,a<P.C.n/\kI e=a
 row:∀a b,P.live a=some b->∃g c,v a=.slice (some ⟨g,0,none⟩) 256 c/\Sl w (some ⟨g,0,none⟩) 256 c (b.out a 0)/\¬T g
 good:∀a b,P.L a=some b->b.good
 Yl:S p/\S m/\(∀k,Sc k->S k)
 ne:∀k,Sc k->k≠p/\k≠m
 sub:∀k,S k->T k
 ok:P.ok
 Fh:P.S.fine
def Pool (w:WD)(p d:Nat)(S T:NP)(P:Pl):Prop:=∃m cur l clock v Sc,PL w p d m cur l clock v Sc S T P
section
variable {w w':WD}{p d m clock:Nat}{cur:Array Value}{l:List MapEntry}{v:Nat->Value}{Sc S T:NP}{P:Pl}
theorem PL.p_m (L:PL w p d m cur l clock v Sc S T P):p≠m:=λe=>by
 have h:=L.me;rw[e,L.map] at h;cases h
theorem PL.Nw (L:PL w p d m cur l clock v Sc S T P):p<w.1.size:=Ky L.me
theorem PL.mlt (L:PL w p d m cur l clock v Sc S T P):m<w.1.size:=Ky L.map
theorem PL.keep (L:PL w p d m cur l clock v Sc S T P)(hk:∀k,k<w.1.size->S k\/¬T k->w'.1[k]?=w.1[k]?)(hz:w.1.size<=w'.1.size):PL w' p d m cur l clock v Sc S T P:=by
 have A:=hk p L.Nw (.inl L.Yl.1);have E:=hk m L.mlt (.inl L.Yl.2.1);refine⟨A.trans L.me,L.ph,L.ct.keep A λk q y=>hk k q (.inl (L.Yl.2.2 k y)),E.trans L.map,L.ents,L.look,L.keys,λa b h=>?_,L.good,L.Yl,L.ne,L.sub,L.ok,L.Fh⟩;obtain⟨g,c,e,y,B⟩:=L.row a b h;refine⟨g,c,e,?_,B⟩;exact stay_slice y hz λf=>hk g f (.inr B)
 where
 stay_slice {w w':WD} {g n c:Nat} {x:LU} (h:Sl w (some ⟨g,0,none⟩) n c x) (hz:w.1.size<=w'.1.size) (f:g<w.1.size->w'.1[g]?=w.1[g]?):Sl w' (some ⟨g,0,none⟩) n c x:=
  ⟨h.1,h.2.1,h.2.2.1,λj u G=>by
   obtain⟨H,e,D,F⟩:=h.2.2.2 j u G;injection e with e;subst e;exact⟨_,rfl,Nat.lt_of_lt_of_le D hz,(AY (a:=(⟨g,0,none⟩:Addr).add j) (by rw[q14];exact f D)).trans F⟩⟩
theorem PL.other (L:PL w p d m cur l clock v Sc S T P){S':NP}(t:Turn S' w w')(hT:∀k,S' k->T k)(hS:∀k,S' k->¬S k):PL w' p d m cur l clock v Sc S T P:=
 L.keep (λk f h=>t.block k f λe=>h.elim (hS k e) λh2=>h2 (hT k e)) t.size
theorem PL.below (L:PL w p d m cur l clock v Sc S T P)(hb:Below w.1.size w w'):PL w' p d m cur l clock v Sc S T P:=L.keep (λk e _=>hb.block k e) hb.size
theorem PL.mono {S' T':NP}(L:PL w p d m cur l clock v Sc S T P)(hS:∀k,k<w.1.size->S k->S' k)(hT:∀k,k<w.1.size->T' k->T k)(hST:∀k,S' k->T' k):PL w p d m cur l clock v (λk=>Sc k/\k<w.1.size) S' T' P:=
 ⟨L.me,L.ph,L.ct.shrink,L.map,L.ents,L.look,L.keys,λa b h=>by
  obtain⟨g,c,e,y,B⟩:=L.row a b h;have u:g<w.1.size:=by
   have h1:=y.len;obtain⟨D,q,A,_⟩:=y.2.2.2 0 (bv ((b.out a 0).getD 0 0)) (by rw[BA,AG,AC (by omega)];rfl);injection q with q;subst q;exact A
  exact⟨g,c,e,y,λh=>B (hT g u h)⟩,L.good,⟨hS p L.Nw L.Yl.1,hS m L.mlt L.Yl.2.1,λk f=>hS k f.2 (L.Yl.2.2 k f.1)⟩,λk f=>L.ne k f.1,hST,L.ok,L.Fh⟩
theorem PL.c0 (L:PL w p d m cur l clock v Sc S T P):w.cell? ⟨p,0,none⟩=some (.pointer (some ⟨d,0,none⟩)):=q2r L.me L.ph.disk
theorem PL.c40 (L:PL w p d m cur l clock v Sc S T P):w.cell? ⟨p,40,none⟩=some (.map (some m)):=q2r L.me L.ph.fresh
theorem PL.sup (L:PL w p d m cur l clock v Sc S T P):w.rangeAt p 1 P.S.vs:=λj x e=>q2r L.me (L.ph.sup j x e)
theorem PL.fz (L:PL w p d m cur l clock v Sc S T P)(j:Nat):w.frozen? ⟨p,j,none⟩=false:=by unfold World.frozen?;rw[L.me];simp
theorem PL.there (L:PL w p d m cur l clock v Sc S T P){o n:Nat}(h:o+n<=41):w.there p o n:=λj e=>by
 refine⟨?_,L.fz _⟩;rw[cell_of_row _ _ _ _ _ _ L.me,Array.getElem?_eq_getElem (by rw[L.ph.size];omega)];rfl
theorem PL.Qb7 (L:PL w p d m cur l clock v Sc S T P){C':Ct}(t:Turn Sc w w')(H:Y1 w' p 36 Sc C')(hn:C'.n=P.C.n)(hlive:∀a:Nat,C'.get (a:Int)=0↔P.C.get (a:Int)=0)(hok:Pl.ok ⟨P.S,C',P.L⟩):PL w' p d m cur l clock v Sc S T ⟨P.S,C',P.L⟩:=by
 have A:=t.block p L.Nw λh=>(L.ne p h).1 rfl
 have hm:=t.block m L.mlt λh=>(L.ne m h).2 rfl
 have q:∀a,Pl.live ⟨P.S,C',P.L⟩ a=P.live a:=λa=>by
  unfold Pl.live;by_cases h:P.C.get (a:Int)=0
  ·rw[AA h,AA ((hlive a).2 h)]
  ·rw[AB h,AB λh2=>h ((hlive a).1 h2)]
 refine⟨A.trans L.me,L.ph,H,hm.trans L.map,L.ents,λa=>by rw[q a];exact L.look a,λe u=>by rw[hn];exact L.keys e u,λa b h=>?_,L.good,L.Yl,L.ne,L.sub,hok,L.Fh⟩;rw[q a] at h;obtain⟨g,c,e,B,f⟩:=L.row a b h;exact⟨g,c,e,PL.keep.stay_slice B t.size λy=>t.block g y λh=>f (L.sub g (L.Yl.2.2 g h)),f⟩
end
theorem Pool.below {w w':WD}{p d:Nat}{S T:NP}{P:Pl}(h:Pool w p d S T P)(hb:Below w.1.size w w'):Pool w' p d S T P:=by
 obtain⟨m,cur,l,clock,v,Sc,L⟩:=h;exact⟨m,cur,l,clock,v,Sc,L.below hb⟩
theorem Pool.other {w w':WD}{p d:Nat}{S T:NP}{P:Pl}(h:Pool w p d S T P){S':NP}(t:Turn S' w w')(hT:∀k,S' k->T k)(hS:∀k,S' k->¬S k):Pool w' p d S T P:=by
 obtain⟨m,cur,l,clock,v,Sc,L⟩:=h;exact⟨m,cur,l,clock,v,Sc,L.other t hT hS⟩
theorem Pool.mono {w:WD}{p d:Nat}{S T S' T':NP}{P:Pl}(h:Pool w p d S T P)(hS:∀k,k<w.1.size->S k->S' k)(hT:∀k,k<w.1.size->T' k->T k)(hST:∀k,S' k->T' k):Pool w p d S' T' P:=by
 obtain⟨m,cur,l,clock,v,Sc,L⟩:=h;exact⟨m,cur,l,clock,v,_,L.mono hS hT hST⟩
theorem Pool.ok {w:WD}{p d:Nat}{S T:NP}{P:Pl}(h:Pool w p d S T P):P.ok:=by
 obtain⟨m,cur,l,clock,v,Sc,L⟩:=h;exact L.ok
end
theorem qgx (S:Sp)(n:Nat)(H:S.Qb=(n:Int))(hn:n<=2048)(F:0<=S.gen/\S.gen<=1099511627776)(w:WD) :
  Calls prog 76 #[.agg S.vs.toArray] w λe w'=>e=.returned (.tuple #[.int .i64 (Qp n S.gen:Int),.int .i64 (Qg n:Int)])/\Below w.1.size w w':=by
 have A:=SB.new w S 103;have D:Below w.1.size w (w.alloc (.cells S.vs.toArray 103)):=Qi;have K:=A.c1;have J:=A.c0;rw[H] at K;obtain⟨g,q⟩:∃g,S.gen=g:=⟨_,rfl⟩;rw[q] at J F ⊢;obtain⟨U,V⟩:=F;obtain⟨f,hm⟩:∃m,Qg n=m:=⟨_,rfl⟩;have R:f<=18:=by unfold Qg at hm;omega
 obtain⟨t,I⟩:∃t,(g % 2).toNat=t:=⟨_,rfl⟩;have W:t<2:=by omega
 have X:g.tmod 2=(t:Int):=by rw[Int.tmod_eq_emod_of_nonneg (by omega)];omega
 obtain⟨u,y⟩:∃u,f*t=u:=⟨_,rfl⟩;have Y:u<=18:=by rw[<-y];rcases (show t=0\/t=1 by omega) with e|e<;>rw[e]<;>omega
 have G:(t:Int)*(f:Int)=(u:Int):=by rw[<-y,Int.mul_comm];exact (Int.natCast_mul f t).symm
 obtain⟨a,E⟩:∃a,2+u=a:=⟨_,rfl⟩;have O:(2:Int)+(u:Int)=(a:Int):=by omega
 have Q:a<=20:=by omega
 have B:=HI (show Qp n g=a by unfold Qp;rw[hm,I,y,E]);have M:=HI hm;rw[hm];clear hm I y E H q A;go_enter func76,ntmps76
 go_wp2_with fail
 generalize w.alloc (.cells S.vs.toArray 103)=Z at D J K ⊢;refine (qdg (n:Int) n rfl (by omega) f M.out Z).mono ?_;rintro e w2 ⟨rfl,rfl⟩;go_wp2;go_ret2;rw[B.out];exact⟨rfl,D⟩
theorem q4c {q:Array Oper}{f:List Oper}{o:Oper}{a:Act}{w:WD}{Q:Exit->Act->WD->Prop}(E:o.guard=none)(x y:Operand)(u:o.op=Op.store 153 x y)
  (b:Nat) (A:a.eval x=.pointer (some ⟨b,0,none⟩)) (h h0:Hd) (F:a.eval y=h.v) (H:HB w b h0) (I:b<w.1.size)
  (D:∀w',HB w' b h->(∀B,B<=b->Below B w w')->Turn (λk=>k=b) w w'->wpList prog q Q f (a.put o.dst undef) w'):wpList prog q Q (o::f) a w:=by
 refine wpList_store_mid E _ x y u b 0 h.vs.toArray A F H.there (by kernel_rfl) (by simp[Hd.vs,Value.oneCell']) ?_;have T:=Vp (S:=λk=>k=b) rfl h.vs 0 w;refine D _ ?_ (λB G=>T.below (λx A=>by omega) (by omega)) T;obtain⟨t,H⟩:=H;have e:=q0s b t h.vs 0 w h0.vs H (by show 0+5<=5;omega);rw[q47 h0.vs h.vs rfl] at e;exact⟨t,e⟩
theorem q77 (a g:Int)(w:WD):Calls prog 78 #[.int .i64 a,.int .i64 g] w λe w'=>e=.returned (.agg #[.int .i64 2,.int .i64 a,.int .i64 0,.int .i64 0,.int .i64 g])/\Below w.1.size w w':=by
 have u:=HB.zero w 153;have y:Below w.1.size w (w.alloc (.cells #[.int .i64 0,.int .i64 0,.int .i64 0,.int .i64 0,.int .i64 0] 153)):=Qi;go_enter func78,ntmps78
 go_wp2_with (first
  |(refine q0v rfl _ _ rfl w.1.size rfl ⟨2,a,0,0,g⟩ _ rfl u (by simp) ?_;intro B q f A)
  |fail)
 refine bodyPost_ret (q2w Tryz.results78 rfl (q8t q)) rfl ?_;exact⟨rfl,y.trans (f _ (AE _))⟩
theorem qoe (b:Bk)(hb:b.good)(a:Nat)(ha:a<=2047)(g:Int)(hg:Em g)(A:OA)(n c:Nat)(w:WD)(hs:Sl w A n c (b.out a 0))(ht:Tab w) :
  Calls prog 91 #[.slice A n c,.int .i64 g] w λe w'=>∃q,e=.returned (.slice (some ⟨q,0,none⟩) 256 256)/\Own w' w.1.size 5 (some ⟨q,0,none⟩) 256 256 (b.out a g)/\Below w.1.size w w':=by
 obtain⟨o1,o2,o3⟩:=hb.opens (a:=a) (g:=0) ha q2h;obtain⟨O,Q⟩:=hb.dates (a:=a) (g:=g) ha hg;have E:=q59 A n c _ w hs ht;unfold q23 at E;rw[o1,o2,o3] at E;obtain⟨H1,B⟩:∃H,b.hd a g=H:=⟨_,rfl⟩;obtain⟨R,f⟩:∃H,b.hd a 0=H:=⟨_,rfl⟩;have Z:R.set 4 g=H1:=by rw[<-f,<-B];exact (qlq b a 0 g).symm
 have a8:R.gen=0:=by rw[<-f,qlq b a 1 0]
 rw[B] at O Q;rw[f] at E;obtain⟨Y,G⟩:∃Y,b.body++List.replicate (236-b.body.length) 0=Y:=⟨_,rfl⟩;rw[G] at O Q E;have W:=HI O;have X:=HI Q;clear O Q o1 o2 o3 G f B;go_enter func91,ntmps91
 go_wp2_with fail
 refine E.mono ?_;rintro e F ⟨A3,n3,c3,rfl,J,D⟩;have I:=ht.below D ht.1;clear E;go_wp2_with (first
  |(refine q4c rfl (.tmp 5) (.tmp 11) rfl F.1.size rfl R _ rfl (HB.zero F _) (by simp) ?_;intro w6 U a1 T6;have q4:=U.at_ 4;have f4:=U.fz 4;have V:=U.Vo 4 g;rw[Z] at V;simp only[Y0,Hd.Fj] at q4 f4 V;have u:Below F.1.size F (w6.setCell ⟨F.1.size,4,none⟩ (.int .i64 g)):=((Qi).trans (a1 _ (AE _))).trans ((AI _ w6).setCell (p:=⟨F.1.size,4,none⟩) (AE _) _);have K:=J.sl.below u;have a7:=I.below u I.1)
  |(refine q5x rfl _ rfl _ rfl _ V ?_)
  |(go_at_call 77;refine (q5y H1 A3 n3 c3 Y _ K a7).mono ?_;rw[W.out,X.out];rintro e w8 ⟨A8,n8,c8,rfl,M,a6,a2⟩)
  |fail)
 obtain⟨q,rfl,rfl,rfl⟩:=a6 (by first|trivial|rfl);have y:=D.trans (u.mono D.size);go_ret;exact⟨q,rfl,M.less y.size,y.trans (a2.mono y.size)⟩
theorem Vk.below {w w':WD}{d:Nat}{S:NP}{D:DM}(L:Vk w d S D)(hb:Below w.1.size w w'):Vk w' d S D:=L.keep λk e _=>hb.block k e
theorem Vk.Qb {w:WD}{d:Nat}{S:NP}{D:DM}(L:Vk w d S D):Go.Proofs.YtnjacafcocnicaaGreatDoor.Qb D.n:=by
 obtain⟨e,f,l,clock,v,L⟩:=L;exact L.n32
structure Ee (w0 w:WD)(d:Nat)(S:NP)(D:DM):Prop where
 Aq:Vk w d (λk=>S k\/w0.heap.size<=k) D
 turn:Turn S w0 w
theorem Vk.dsk {w:WD}{d:Nat}{S:NP}{D:DM}(L:Vk w d S D):Ee w w d S D:=⟨L.mono λ_ _ h=>.inl h,Turn.refl _ _⟩
theorem Ee.below {w0 w w':WD}{d:Nat}{S:NP}{D:DM}(L:Ee w0 w d S D)(hb:Below w.1.size w w'):Ee w0 w' d S D:=⟨L.Aq.below hb,L.turn.trans (Qz hb) λ_ e=>.inl e⟩
theorem q1t {y w:WD}{d:Nat}{S:NP}{D:DM}(L:Ee y w d S D){m:Nat}(q:D.Ya m)(hm:m<=900000)(s:Nat)(z:Int)(u:z=(s:Int))(A:OA)(n c:Nat)(x:LU)(h:Sl w A n c x) :
  Calls prog 73 #[.pointer (some ⟨d,0,none⟩),.int .i64 z,.slice A n c] w λe w'=>e=.returned (.int .i64 (D.says (.w s x)))/\Ee y w' d S (D.does (.w s x)):=by
 subst u;refine (qq5 L.Aq (s:Int) A n c x h (by have:=q.steps;omega) λk=>by have:=q.rows k;omega).mono ?_;rintro e w' ⟨rfl,R,T⟩;have u:=L.turn.size;exact⟨rfl,R.mono λk _ f=>f.elim id λh=>.inr (by omega),L.turn.trans T λk f=>f⟩
theorem q3t {q w:WD}{d:Nat}{S:NP}{D:DM}(L:Ee q w d S D){m:Nat}(f:D.Ya m)(hm:m<=900000) :
  Calls prog 74 #[.pointer (some ⟨d,0,none⟩)] w λe w'=>e=.returned (.int .i64 (D.says .fl))/\Ee q w' d S (D.does .fl):=by
 refine (qqg L.Aq (by have:=f.steps;omega) λk=>by have:=f.rows k;omega).mono ?_;rintro e w' ⟨rfl,R,T⟩;exact⟨rfl,R,L.turn.trans T λk u=>u⟩
def DM.Xx (D:DM)(l:List Stp):Bool:=decide (D.Zv l=0)
theorem qof {w:WD}{d:Nat}{S:NP}{D:DM}(L:Vk w d S D){m:Nat}(ht:D.Ya m)(hm:m<=800000) :
  Calls prog 43 #[.pointer (some ⟨d,0,none⟩)] w λe w'=>e=.returned (.bool (D.Xx (Vq D.n)))/\Ee w w' d S (D.Qj (Vq D.n)):=by
 have L0:=L.dsk;have hA:Vq D.n=[.w 0 q12,.w 1 q12]++[.fl]:=rfl;have hw:∀j,j<2->([.w 0 q12,.w 1 q12]:List Stp).take (j+1)=([.w 0 q12,.w 1 q12]:List Stp).take j++[.w j q12]:=λj hj=>by
  rcases (show j=0\/j=1 by omega) with e|e<;>subst e<;>rfl
 obtain⟨u,J⟩:∃W:List Stp,[.w 0 q12,.w 1 q12]=W:=⟨_,rfl⟩;rw[J] at hA hw;have V:u.length=2:=by rw[<-J];rfl
 have Z:=HI hA;have HW:=HI hw;have HL:=HI V;clear hA hw J V;go_enter func43,ntmps43
 go_wp2_with fail
 go_loopw [3,4] (λ_ i wr=>∃j:Nat,j<=2/\i=.int .i64 (j:Int)/\D.Zv (u.take j)=0/\Ee w wr d S (D.Qj (u.take j))) (λ_ i _=>2-(intOf i).toNat)
 case atStart=>exact⟨0,by omega,rfl,rfl,L0⟩
 case round=>
  clear L0;obtain⟨j,hj,rfl,hE,Y⟩:=hrel;have G:=q3j (u.take j) ht;have a6:(u.take j).length<=2:=by rw[AR];omega
  obtain⟨H,I⟩:∃H,D.Qj (u.take j)=H:=⟨_,rfl⟩;rw[I] at Y G;have B:=HI I;have X:=HI hE;clear I hE;by_cases a2:j<2
  ·have e3:(j:Int)<2:=by omega
   have M:=HI (HW.out j a2);have R:=HI (show D.Zv (u.take (j+1))=H.says (.w j q12) by rw[M.out,q75,AA X.out,B.out]);have Q:=HI (show D.Qj (u.take (j+1))=H.does (.w j q12) by rw[M.out,q76,AA X.out,B.out]);obtain⟨E,U⟩:∃E,H.says (.w j q12)=E:=⟨_,rfl⟩;have F:=HI U;clear U;by_cases h0:E=0
   ·have nb:(E != 0)=false:=by simpa using h0
    have H0:=HI h0;clear h0;go_wp2_with (first
     |(at_make;refine q7i _ Cb rfl _ _ rfl _ _ 256 rfl rfl (by omega) ?_;intro w3 A K;have L3:=Y.below K)
     |(go_at_call 73;refine (q1t L3 G (by omega) j _ rfl _ 256 256 q12 A.sl).mono ?_;rw[F.out];rintro e w4 ⟨rfl,O⟩)
     |fail)
    exact⟨⟨j+1,by omega,by go_num,R.out.trans (F.out.trans H0.out),by rw[Q.out];exact O⟩,by simp[intOf];omega⟩
   ·have nb:(E != 0)=true:=by simpa using h0
    have q:D.Zv (u.take (j+1))≠0:=λh=>h0 (F.out.symm.trans (R.out.symm.trans h))
    have y:Vq D.n=u.take (j+1)++(u.drop (j+1)++[.fl]):=by rw[Z.out,<-AM,AV]
    obtain⟨r1,r2⟩:=q37 (l':=u.drop (j+1)++[.fl]) q;have R1:=HI (show D.Xx (Vq D.n)=false by unfold DM.Xx;rw[y,r1];exact AH q);have R2:=HI (show D.Qj (Vq D.n)=H.does (.w j q12) by rw[y,r2,Q.out]);clear y r1 r2 q h0;go_wp2_with (first
     |(at_make;refine q7i _ Cb rfl _ _ rfl _ _ 256 rfl rfl (by omega) ?_;intro w3 A K;have L3:=Y.below K)
     |(go_at_call 73;refine (q1t L3 G (by omega) j _ rfl _ 256 256 q12 A.sl).mono ?_;rw[F.out];rintro e w4 ⟨rfl,O⟩)
     |fail)
    go_ret;exact⟨by rw[R1.out];rfl,by rw[R2.out];exact O⟩
  ·have a1:j=2:=by omega
   subst a1;have f:u.take 2=u:=AN (by rw[HL.out];exact AE _);have R1:=HI (show D.Xx (Vq D.n)=decide (H.says .fl=0) by unfold DM.Xx;rw[Z.out,q75,<-f,AA X.out,B.out]);have R2:=HI (show D.Qj (Vq D.n)=H.does .fl by rw[Z.out,q76,<-f,AA X.out,B.out]);clear f;go_wp2_with (first
    |(go_at_call 74;refine (q3t Y G (by omega)).mono ?_;rintro e w4 ⟨rfl,O⟩)
    |fail)
   go_ret;exact⟨by rw[R1.out];rfl,by rw[R2.out];exact O⟩
section
theorem Tab.turned {w w':WD}{S:NP}(h:Tab w)(T:Turn S w w')(hS:¬S 1):Tab w':=
 ⟨Nat.lt_of_lt_of_le h.1 T.size,λk e=>(AY (a:=⟨1,k,none⟩) (T.block _ h.1 hS)).trans (h.2 k e)⟩
theorem Vk.tight {w:WD}{d:Nat}{S:NP}{D:DM}(L:Vk w d S D):Vk w d (λk=>S k/\k<w.1.size) D:=L.mono λ_ h1 h2=>⟨h2,h1⟩
theorem Ee.from {w0 w1 w:WD}{d:Nat}{S:NP}{D:DM}(L:Ee w1 w d (λk=>S k/\k<w0.1.size) D)(b:Below w0.1.size w0 w1):Ee w0 w d S D:=
 ⟨L.Aq.mono λk _ e=>e.elim (λh=>.inl h.1) λh=>.inr (by have:=b.size;omega),(Qz b |>.mono (S':=S) λ_ h=>h).trans L.turn λ_ e=>.inl e.1⟩
def Ub (C:Ct)(S:Sp):List Stp:=Gf (Ez (Qp C.n S.gen) (Wh C S.gen)) (S.gen % 2).toNat (swB S (S.gen % 2))
theorem q5g (D:DM)(a:Stp)(l:List Stp):D.Zv (a::l)=(if D.says a=0 then (D.does a).Zv l else D.says a)/\D.Qj (a::l)=(if D.says a=0 then (D.does a).Qj l else D.does a):=⟨rfl,rfl⟩
theorem qvw {D:DM}{A:List Stp}(slot:Nat)(e:LU)(h:D.Zv A=0):D.Zv (Gf A slot e)=(D.Qj A).Zv [.fl,.w slot e,.fl]/\D.Qj (Gf A slot e)=(D.Qj A).Qj [.fl,.w slot e,.fl]:=by
 unfold Gf;rw[q32,q33,AA h,AA h];exact⟨rfl,rfl⟩
theorem qra (D:DM)(a:Stp):D.Zv [a]=D.says a/\D.Qj [a]=D.does a:=by
 rw[(q5g D a []).1,(q5g D a []).2];constructor
 ·split
  ·rename_i h;exact h.symm
  ·rfl
 ·split<;>rfl
attribute [local go_sem ↓] q1w
theorem qat {w:WD}{d pc o:Nat}{S0 Sc:NP}{D:DM}{C:Ct}(L:Vk w d S0 D)(H:Y1 w pc o Sc C)(c8:∀k,S0 k->k≠pc/\¬Sc k)(hG:¬S0 1)(S:Sp)(a1:S.may=true)(X:S.fine)(c7:S.Qb=(C.n:Int))(ht:Tab w){m:Nat}(g9:D.Ya m)(hm:m<=800000) :
  Calls prog 46 #[.pointer (some ⟨d,0,none⟩),.agg S.vs.toArray,.pointer (some ⟨pc,o,none⟩)] w λe w'=>e=.returned (.bool (D.Xx (Ub C S)))/\Ee w w' d S0 (D.Qj (Ub C S)):=by
 have d8:=H.ok.1;have Z:=(q11 a1).1;have hg:Wy S.gen:=⟨Z.1,Z.2.1⟩;obtain⟨g,q⟩:∃g,S.gen=g:=⟨_,rfl⟩;rw[q] at hg;obtain⟨ar,y⟩:∃m,Qg C.n=m:=⟨_,rfl⟩;have i4:ar<=18:=by unfold Qg at y;omega
 obtain⟨t,e0⟩:∃t,(g % 2).toNat=t:=⟨_,rfl⟩;have f:g % 2=(t:Int):=by have:=hg.1;omega
 have j8:t<2:=by omega
 have i6:g.tmod 2=(t:Int):=by rw[Int.tmod_eq_emod_of_nonneg (by have:=hg.1;omega)];exact f
 obtain⟨a,ha⟩:∃a,Qp C.n g=a:=⟨_,rfl⟩;have i8:a<=40:=by
  rw[<-ha];unfold Qp;rw[y,e0];rcases (show t=0\/t=1 by omega) with e|e<;>rw[e]<;>omega
 obtain⟨sb,d9⟩:∃x,swB S (t:Int)=x:=⟨_,rfl⟩;have a7:Xy S (t:Int)=true:=by unfold Xy;rw[a1,Bool.true_and];exact AL ⟨by omega,by omega⟩
 have d0:=(qld a7).1;obtain⟨W,hW⟩:∃W,Ez (Qp C.n S.gen) (Wh C S.gen)=W:=⟨_,rfl⟩;have c9:Ub C S=Gf W t sb:=by unfold Ub;rw[hW,q,f,d9,<-f,e0]
 have f1:W.length=ar:=by rw[<-hW,qem,q1f,y]
 have f2:∀j,j<ar->W.take (j+1)=W.take j++[.w (a+j) (Zn (U1 C.n g j) (C.body (j:Int)))]:=λj hj=>by
  rw[<-hW,qvk _ _ (by rw[q1f,y];exact hj),qen _ _ (by rw[y];exact hj),q,ha]
 have a2:∀j,j<ar->Xr ⟨2,((a+j:Nat):Int),0,0,g⟩ (C.body (j:Int))=0/\Xw ⟨2,((a+j:Nat):Int),0,0,g⟩ (C.body (j:Int))=Zn (U1 C.n g j) (C.body (j:Int)):=λj hj=>by
  have g0:=qqo d8.1 d8.2 hg (i:=j) (by rw[y];exact hj);have f3:=Ct.U0 (C:=C) (i:=j) (by rw[y];exact hj);have g5:U1 C.n g j=⟨2,((a+j:Nat):Int),0,0,g⟩:=by unfold U1;rw[ha]
  rw[<-g5];unfold Xr Xw;rw[AA g0,AA g0,AA (by rw[f3];exact AE _),AA (by rw[f3];exact AE _)];exact⟨rfl,rfl⟩
 have hA:=qgx S C.n c7 d8.2 ⟨by rw[q];have:=hg.1;omega,by rw[q];have:=hg.2;omega⟩;rw[q,ha,y] at hA;have HA:=HI hA;have HS:=HI c9;have e5:=HI f1;have g4:=HI f2;have d4:=HI a2;have i7:=HI f;have e7:=HI d9;have e9:=HI d0;have i3:=HI a7;have K:=HI X;have b9:=HI c8;have g3:=HI hG;have X1:=SB.new w S 103;have b1:Below w.1.size w (w.alloc (.cells S.vs.toArray 103)):=Qi;have M:=L.tight.below b1;have H1:=H.below b1;have t1:=ht.below b1 ht.1;have i9:=H.lt;have j9:=ht.1;clear hA c9 hW f1 f2 a2 Z f d9 d0 a7 X ha c7 c8 hG a1 e0 hg L ht H;have g1:=X1.ld;go_enter func46,ntmps46
 go_wp2_with fail
 generalize w.alloc (.cells S.vs.toArray 103)=w1 at b1 M H1 t1 X1 g1 ⊢;refine (HA.out w1).mono ?_;rintro e w2 ⟨rfl,b2⟩;have L2:=M.below b2;have H2:=H1.below b2;have t2:=t1.below b2 t1.1;have X2:=X1.below b2 X1.lt;have B2:=b1.trans (b2.mono b1.size);have i0:w.1.size<w2.1.size:=X2.lt;clear g1 M H1 t1 X1 b1 b2;have L0:=L2.dsk;have a6:∀wr,Turn (λk=>S0 k/\k<w.1.size) w2 wr->SB wr w.1.size S/\Y1 wr pc o Sc C/\Tab wr:=λwr T=>
  ⟨X2.block (T.block _ i0 (λh=>by have:=h.2;omega)),H2.keep (T.block pc (by omega) λh=>(b9.out pc h.1).1 rfl) (λk hk hs=>T.block k hk λh=>(b9.out k h.1).2 hs),t2.turned T λh=>g3.out h.1⟩
 have e8:=HI a6;clear a6 X2 H2 t2 L2;go_wp2_with fail
 go_loopw [9,10,11,21] (λ_ _ _ i wr=>∃j:Nat,j<=ar/\i=.int .i64 (j:Int)/\D.Zv (W.take j)=0/\Ee w2 wr d (λk=>S0 k/\k<w.1.size) (D.Qj (W.take j))) (λ_ _ _ i _=>ar-(intOf i).toNat)
 case atStart=>exact⟨0,by omega,rfl,rfl,L0⟩
 case round=>
  clear L0;obtain⟨j,hj,rfl,hE,M⟩:=hrel;have J:=q3j (W.take j) g9;have i5:(W.take j).length<=18:=by rw[AR,e5.out];omega
  obtain⟨D1,d6⟩:∃D1,D.Qj (W.take j)=D1:=⟨_,rfl⟩;rw[d6] at M J;have d1:=HI d6;have HE:=HI hE;obtain⟨X3,H3,t3⟩:=e8.out wr M.turn;clear d6 hE;by_cases g2:j<ar
  ·have e3:(j:Int)<(ar:Int):=by omega
   have e6:=HI (g4.out j g2);obtain⟨s1,s2⟩:=d4.out j g2;obtain⟨x,hx⟩:∃x,Zn (U1 C.n g j) (C.body (j:Int))=x:=⟨_,rfl⟩;rw[hx] at s2;obtain⟨s,hs⟩:∃s,a+j=s:=⟨_,rfl⟩;rw[hs] at s1 s2;have j0:(a:Int)+(j:Int)=(s:Int):=by omega
   have j7:s<=100:=by omega
   have G:=HI (show D.Zv (W.take (j+1))=D1.says (.w s x) by rw[e6.out,q75,AA HE.out,d1.out,hx,hs]);have u:=HI (show D.Qj (W.take (j+1))=D1.does (.w s x) by rw[e6.out,q76,AA HE.out,d1.out,hx,hs]);have S1:=HI s1;have S2:=HI s2;have q0:=X3.c0;rw[q] at q0;obtain⟨E,f0⟩:∃E,D1.says (.w s x)=E:=⟨_,rfl⟩;have b3:=HI f0;clear f0 hx hs s1 s2;by_cases h0:E=0
   ·have nb:(E != 0)=false:=by simpa using h0
    have H0:=HI h0;clear h0;go_wp2_with (first
     |(go_at_call 78;refine (q77 _ g wr).mono ?_;rintro e w4 ⟨rfl,O⟩;have H4:=H3.below O;have t4:=t3.below O t3.1)
     |(go_at_call 79;refine (qgh H4 (j:Int)).mono ?_;rintro e w5 ⟨V,n5,c5,rfl,s5,Q,_⟩;have t5:=t4.below Q t4.1)
     |(go_at_call 77;refine (q5y ⟨2,(s:Int),0,0,g⟩ V n5 c5 _ w5 s5 t5).mono ?_;rw[S1.out,S2.out];rintro e w6 ⟨A6,n6,c6,rfl,b0,g6,b6⟩;have L6:=M.below (O.trans ((Q.mono O.size).trans (b6.mono (AZ O.size Q.size)))))
     |(go_at_call 73;refine (q1t L6 J (by omega) s _ rfl A6 n6 c6 x b0.sl).mono ?_;rw[b3.out];rintro e w7 ⟨rfl,L7⟩)
     |fail)
    exact⟨⟨j+1,by omega,by go_num,G.out.trans (b3.out.trans H0.out),by rw[u.out];exact L7⟩,by simp[intOf];omega⟩
   ·have nb:(E != 0)=true:=by simpa using h0
    have I:D.Zv (W.take (j+1))≠0:=λh=>h0 (b3.out.symm.trans (G.out.symm.trans h))
    have U:Ub C S=W.take (j+1)++(W.drop (j+1)++.fl::[.w t sb,.fl]):=by rw[HS.out];unfold Gf;rw[<-AM,AV]
    obtain⟨B,F⟩:=q37 (l':=W.drop (j+1)++.fl::[.w t sb,.fl]) I;have R1:=HI (show D.Xx (Ub C S)=false by unfold DM.Xx;rw[U,B];exact AH I);have R2:=HI (show D.Qj (Ub C S)=D1.does (.w s x) by rw[U,F,u.out]);clear U B F I h0;go_wp2_with (first
     |(go_at_call 78;refine (q77 _ g wr).mono ?_;rintro e w4 ⟨rfl,O⟩;have H4:=H3.below O;have t4:=t3.below O t3.1)
     |(go_at_call 79;refine (qgh H4 (j:Int)).mono ?_;rintro e w5 ⟨V,n5,c5,rfl,s5,Q,_⟩;have t5:=t4.below Q t4.1)
     |(go_at_call 77;refine (q5y ⟨2,(s:Int),0,0,g⟩ V n5 c5 _ w5 s5 t5).mono ?_;rw[S1.out,S2.out];rintro e w6 ⟨A6,n6,c6,rfl,b0,g6,b6⟩;have L6:=M.below (O.trans ((Q.mono O.size).trans (b6.mono (AZ O.size Q.size)))))
     |(go_at_call 73;refine (q1t L6 J (by omega) s _ rfl A6 n6 c6 x b0.sl).mono ?_;rw[b3.out];rintro e w7 ⟨rfl,L7⟩)
     |fail)
    go_ret;exact⟨by rw[R1.out];rfl,by rw[R2.out];exact L7.from B2⟩
  ·have g7:j=ar:=by omega
   subst g7;have Y:W.take j=W:=AN (by rw[e5.out];exact AE _);have d7:=HE.out;have d5:=d1.out;rw[Y] at d7 d5;obtain⟨B,F⟩:=qvw (D:=D) (A:=W) t sb d7;rw[d5,<-HS.out] at B F;have e3:¬(j:Int)<(j:Int):=by omega
   have b8:=q74 J .fl;obtain⟨E1,G⟩:∃E,D1.says .fl=E:=⟨_,rfl⟩;obtain⟨D2,u⟩:∃E,D1.does .fl=E:=⟨_,rfl⟩;rw[u] at b8;rw[(q5g _ _ _).1,G,u] at B;rw[(q5g _ _ _).2,G,u] at F;have d3:=HI G;have d2:=HI u;clear G u d7 d5 Y;by_cases h1:E1=0
   ·have i1:(E1 != 0)=false:=by simpa using h1
    rw[AA h1] at B F;have f9:=q74 b8 (.w t sb);obtain⟨E2,b7⟩:∃E,D2.says (.w t sb)=E:=⟨_,rfl⟩;obtain⟨D3,R⟩:∃E,D2.does (.w t sb)=E:=⟨_,rfl⟩;rw[R] at f9;rw[(q5g _ _ _).1,b7,R] at B;rw[(q5g _ _ _).2,b7,R] at F;have e4:=HI b7;have e2:=HI R;clear b7 R h1;have q0:=X3.c0;rw[q] at q0;have f4:=HI (λ(w':WD) (l':Ee w2 w' d (λk=>S0 k/\k<w.1.size) D2)=>e8.out w' l'.turn);by_cases h2:E2=0
    ·rw[AA h2,(qra _ _).1] at B;rw[AA h2,(qra _ _).2] at F;have i2:(E2==0)=true:=by simpa using h2
     have R1:=HI (show D.Xx (Ub C S)=decide (D3.says .fl=0) by unfold DM.Xx;rw[B]);have R2:=HI F;clear B F h2;go_wp2_with (first
      |(go_at_call 74;refine (q3t M J (by omega)).mono ?_;rw[d3.out,d2.out];rintro e w4 ⟨rfl,L4⟩;obtain⟨X4,H4,t4⟩:=f4.out w4 L4;have e1:=X4.c0;rw[q] at e1;have g8:=X4.ld)
      |(go_at_call 80;refine (q80 S (t:Int) K.out w4 t4).mono ?_;rw[e9.out,e7.out];rintro e w5 ⟨A5,n5,c5,rfl,a8,_,Q⟩;have L5:=L4.below Q)
      |(go_at_call 73;refine (q1t L5 b8 (by omega) t _ rfl A5 n5 c5 sb a8.sl).mono ?_;rw[e4.out,e2.out];rintro e w6 ⟨rfl,L6⟩)
      |(go_at_call 74;have hh:=L6;refine (q3t L6 f9 (by omega)).mono ?_;rintro e w7 ⟨rfl,L7⟩)
      |fail)
     go_ret;exact⟨by rw[R1.out];rfl,by rw[R2.out];exact L7.from B2⟩
    ·rw[AB h2] at B F;have i2:(E2==0)=false:=by simpa using h2
     have R1:=HI (show D.Xx (Ub C S)=false by unfold DM.Xx;rw[B];exact AH h2);have R2:=HI F;clear B F h2;go_wp2_with (first
      |(go_at_call 74;refine (q3t M J (by omega)).mono ?_;rw[d3.out,d2.out];rintro e w4 ⟨rfl,L4⟩;obtain⟨X4,H4,t4⟩:=f4.out w4 L4;have e1:=X4.c0;rw[q] at e1;have g8:=X4.ld)
      |(go_at_call 80;refine (q80 S (t:Int) K.out w4 t4).mono ?_;rw[e9.out,e7.out];rintro e w5 ⟨A5,n5,c5,rfl,a8,_,Q⟩;have L5:=L4.below Q)
      |(go_at_call 73;refine (q1t L5 b8 (by omega) t _ rfl A5 n5 c5 sb a8.sl).mono ?_;rw[e4.out,e2.out];rintro e w6 ⟨rfl,L6⟩)
      |fail)
     go_ret;exact⟨by rw[R1.out];rfl,by rw[R2.out];exact L6.from B2⟩
   ·have i1:(E1 != 0)=true:=by simpa using h1
    rw[AB h1] at B F;have R1:=HI (show D.Xx (Ub C S)=false by unfold DM.Xx;rw[B];exact AH h1);have R2:=HI F;clear B F h1;go_wp2_with (first
     |(go_at_call 74;refine (q3t M J (by omega)).mono ?_;rw[d3.out,d2.out];rintro e w4 ⟨rfl,L4⟩)
     |fail)
    go_ret;exact⟨by rw[R1.out];rfl,by rw[R2.out];exact L4.from B2⟩
end
theorem qls {l:LU}{slot:Int}(h:Xu l slot=true):(G6 l slot).may=true:=by
 rw[(qlh h).1];unfold Xu at h;rw[BN,BN] at h;have:=h.2.1;unfold Xy at this;rw[BN] at this;exact this.1
theorem qC3 {a b:LU}(h:Ip a b=0):(snS a b).may=true:=by
 by_cases h1:Xu a 0=false/\Xu b 1=false
 ·rw[(Qcy h1.1 h1.2).2.2] at h
  cases h
 ·by_cases h2:(G6 a 0).gen<(G6 b 1).gen
  ·rw[(Qca h1 h2).1]
   cases f:Xu b 1
   ·cases e:Xu a 0
    ·exact absurd ⟨e,f⟩ h1
    ·have q:=(q11 (qls e)).1.1;rw[(qjc f).1] at h2;have:Sp.zero.gen=0:=rfl;omega
   ·exact qls f
  ·rw[(Qb9 h1 h2).1]
   cases e:Xu a 0
   ·cases f:Xu b 1
    ·exact absurd ⟨e,f⟩ h1
    ·have q:=(q11 (qls f)).1.1;rw[(qjc e).1] at h2;have:Sp.zero.gen=0:=rfl;omega
   ·exact qls e
theorem qeu {S:Sp}(h:S.may=true):S.fine:=λk e=>by
 have:=q70 h k e;unfold maxLen;omega
theorem qvx {n:Nat}{f:List (LU)}(h:Xm (n:Int) f=0):(32<=n/\n<=2048)/\f.length=Qg n/\∀i,i<Qg n->q4q n (2+2*Qg n) i (nth f i):=by
 unfold Xm at h;split at h
 ·cases h
 ·rename_i h1;have h1:=Decidable.of_not_not h1;rw[AJ] at h;split at h
  ·cases h
  ·rename_i h2;refine⟨by omega,?_,?_⟩
   ·exact Classical.byContradiction λe=>h2 (.inl e)
   ·exact Classical.byContradiction λe=>h2 (.inr e)
theorem qjl (n:Nat)(e:List (LU)):(Ui n e).n=n:=qaj _ _ _
theorem qC4 {n:Nat}{f:List (LU)}(h:Xm (n:Int) f=0):(Ui n f).res:=by
 obtain⟨h1,h2,A⟩:=qvx h;intro a y u;rw[qjl] at y;have D:a<2+2*Qg n:=by unfold Ct.first at u;rw[qjl] at u;exact u
 have e:nm (Ui n f).now a=nm (Y8 n f (Qg n)).now a:=rfl;rw[e,qak n f (Qg n) a y];split
 ·rename_i E;have hi:a / 118<Qg n:=by omega
  have q:=(A _ hi).2 (a % 118) (Nat.mod_lt _ (by omega));unfold Y5 at q;have q:=of_decide_eq_false q;exact Classical.byContradiction λB=>q ⟨B,.inl (by omega)⟩
 ·rfl
