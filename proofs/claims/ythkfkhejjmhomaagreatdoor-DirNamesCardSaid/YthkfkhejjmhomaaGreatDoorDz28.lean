/- The code's find: what a node that was read holds; kid -/
import Derived.Test.YthkfkhejjmhomaaGreatDoorDz27
namespace Go.Proofs.YthkfkhejjmhomaaGreatDoor
open Go Go.RowKit Go.Proofs
set_option maxHeartbeats 16000000
set_option maxRecDepth 100000
def Wi (w:World)(lo hi:Nat)(A:Option Addr)(n:Nat)(xs:List Qq):Prop:=
 ∀j,j<n->∃g o V p q,A=some ⟨g,o,none⟩/\g<w.1.size/\w.cell? ⟨g,o+j*4,none⟩=some (.int .i64 (Qx xs j).k.obj)/\w.cell? ⟨g,o+j*4+1,none⟩=some (.int .i64 (Qx xs j).k.kind)/\
  w.cell? ⟨g,o+j*4+2,none⟩=some (.int .i64 (Qx xs j).k.off)/\w.cell? ⟨g,o+j*4+3,none⟩=some (.slice V p q)/\Sl w V p q (Qx xs j).v/\((Qx xs j).v≠[]->∀b,Xq V=some b->lo<=b/\b<hi)
def Held (w:World)(lo hi:Nat)(A:Option Addr)(n c:Nat)(B:Option Addr)(m d:Nat)(M:Nd):Prop:=
 hi<=w.1.size/\n<=20/\m<=20/\∀w',w.1.size<=w'.1.size->(∀k,lo<=k->k<hi->w'.1[k]?=w.1[k]?)->Zn w' lo A n c M.items/\Q7 w' B m d M.kids/\Wi w' lo hi A n M.items
section
variable {w w':World}{lo hi n c m d:Nat}{A B:Option Addr}{M:Nd}
theorem Held.rows (h:Held w lo hi A n c B m d M):Zn w lo A n c M.items/\Q7 w B m d M.kids:=by
 obtain⟨a,b,_⟩:=h.2.2.2 w (Nat.le_refl _) λ_ _ _=>rfl
 exact⟨a,b⟩
theorem Held.vals (h:Held w lo hi A n c B m d M):Wi w lo hi A n M.items:=(h.2.2.2 w (Nat.le_refl _) λ_ _ _=>rfl).2.2
theorem Held.turn {S:Nat->Prop}(h:Held w lo hi A n c B m d M)(t:Turn S w w')(hS:∀k,lo<=k->k<hi->¬S k):Held w' lo hi A n c B m d M:=by
 obtain⟨h1,h2,g,p⟩:=h;have q:∀k,lo<=k->k<hi->w'.1[k]?=w.1[k]?:=λk e f=>t.block k (by omega) (hS k e f)
 exact⟨Nat.le_trans h1 t.size,h2,g,λz y u=>p z (Nat.le_trans t.size y) λk a b=>(u k a b).trans (q k a b)⟩
theorem Held.below (h:Held w lo hi A n c B m d M)(hb:Below w.1.size w w'):Held w' lo hi A n c B m d M:=h.turn (Uk (S:=λ_=>False) hb) λ_ _ _ h=>h
end
theorem Qlg {w w':World}{base n c:Nat}{A:Option Addr}{xs:List Qq}(h:Zn w base A n c xs)(R:w.1.size<=w'.1.size)(G:∀k,base<=k->k<w.1.size->w'.1[k]?=w.1[k]?):Zn w' base A n c xs:=by
 obtain⟨E,h1,h2,J⟩:=h;refine⟨E,h1.keep λg a b=>G g a b,h2,λj r x O Q=>?_⟩;obtain⟨V,p,q,e,y,f⟩:=J j r x O Q;refine⟨V,p,q,e,⟨y.1,y.2.1,y.2.2.1,λi u D=>?_⟩,f⟩;obtain⟨z,F,H,I⟩:=y.2.2.2 i u D;have P:x.v≠[]:=λe=>by rw[e] at D;simp at D
 have K:=(f P z.block (by rw[F];rfl)).1;exact⟨z,F,by omega,(World.cell?_of_block (a:=z.add i) (by rw[Y7];exact G _ K H)).trans I⟩
theorem Qvw {w w':World}{lo n c:Nat}{A:Option Addr}{xs:List Qq}(h:Zn w lo A n c xs)(Z:w.1.size<=w'.1.size)(O:∀k,lo<=k->k<w.1.size->w'.1[k]?=w.1[k]?):Wi w' lo w.1.size A n xs:=λj X=>by
 obtain⟨f,h1,h2,T⟩:=h;have Y:f.length=n:=h1.len (by omega);have P:f[j]?=some (f[j]'(by omega)):=List.getElem?_eq_getElem (by omega);have W:=Ae (xs:=xs) (j:=j) (by omega);obtain⟨V,p,q,e,D,z⟩:=T j _ _ P W;obtain⟨g,o,J,U,_,K⟩:=(h1.Hr (by omega)).2.2.2 j _ P;rw[e] at K;have G:=(h1.Zx g (by rw[J];rfl)).1;have cell:∀i v,(Yp (Qx xs j).k V p q)[i]?=some v->w'.cell? ⟨g,o+j*4+i,none⟩=some v:=λi v y=>(World.cell?_of_block (a:=⟨g,_,none⟩) (O g G U)).trans (K i v y)
 refine⟨g,o,V,p,q,J,by omega,cell 0 _ rfl,cell 1 _ rfl,cell 2 _ rfl,cell 3 _ rfl,⟨D.1,D.2.1,D.2.2.1,λi u H=>?_⟩,λy b E=>⟨(z y b E).1,D.Zx y b E⟩⟩;obtain⟨F,I,Q,R⟩:=D.2.2.2 i u H;have y:(Qx xs j).v≠[]:=λe=>by rw[e] at H;simp at H
 have E:=(z y F.block (by rw[I];rfl)).1;exact⟨F,I,by omega,(World.cell?_of_block (a:=F.add i) (by rw[Y7];exact O _ E Q)).trans R⟩
theorem Qtx {w w':World}{A B:Option Addr}{n c m d:Nat}{M:Nd}(hn:n<=20)(hm:m<=20)(f:Zn w' w.1.size A n c M.items)(q:Qr w' w.1.size 148 4 B m d (M.kids.map Qk.vs)):Held w' w.1.size w'.1.size A n c B m d M:=
 ⟨Nat.le_refl _,hn,hm,λu p e=>⟨Qlg f p e,(q.keep λg a b=>e g a b).Hr (by omega),Qvw f p e⟩⟩
theorem NB.turned {w w':World}{b:Nat}{l:Int}{A B:Option Addr}{n c m d:Nat}(H:NB w b l A n c B m d){S:Nat->Prop}(T:Turn S w w')(hb:¬S b):NB w' b l A n c B m d:=H.keep (T.block b H.lt hb)
def Qo4 (R:Int->Nd × Int)(l a:Int):Int:=if (R a).2≠0 then (R a).2 else if (R a).1.lvl≠l-1 then 5 else 0
def Qrw (R:Int->Nd × Int)(l a:Int):Nd:=if (R a).2≠0 then Qu else if (R a).1.lvl≠l-1 then Qu else (R a).1
theorem Qxz {w0 w:World}{p:Nat}{R:Int->Nd × Int}(H:Src w0 p R)(B0:Below w0.1.size w0 w)(ht:Tab w)(l:Int)(a2:1<=l)(a6:l<8)(kids:List Qk)(A:Option Addr)(n c:Nat)(B:Option Addr)(m d:Nat)(hK:Q7 w B m d kids)(i:Nat)(hi:i<m)(x:Int)(z:(Ql kids i).a=x) :
  Calls Tryz.prog 98 #[.pointer (some ⟨p,0,none⟩),.agg #[.int .i64 l,.slice A n c,.slice B m d],.int .i64 (i:Int)] w λe w'=>Fe (Qrw R l x) (Qo4 R l x) w e w':=by
 obtain⟨g,o,rfl,hg,-,-,-,k3⟩:=hK.cell hi;rw[z] at k3;have G:NB ((w.alloc (.cells #[.int .i64 l,.slice A n c,.slice (some ⟨g,o,none⟩) m d] 77)).alloc (.cells #[.int .i64 0,.slice none 0 0,.slice none 0 0] 77)) w.1.size l A n c (some ⟨g,o,none⟩) m d:=(NB.new w _ _ _ _ _ _ _ _).below (Ib) (by simp);have O:NB ((w.alloc (.cells #[.int .i64 l,.slice A n c,.slice (some ⟨g,o,none⟩) m d] 77)).alloc (.cells #[.int .i64 0,.slice none 0 0,.slice none 0 0] 77)) (w.1.size+1) 0 none 0 0 none 0 0:=by
  have:=NB.new (w.alloc (.cells #[.int .i64 l,.slice A n c,.slice (some ⟨g,o,none⟩) m d] 77)) 0 none 0 0 none 0 0 77;rwa [World.size_alloc] at this
 have q:Below w.1.size w ((w.alloc (.cells #[.int .i64 l,.slice A n c,.slice (some ⟨g,o,none⟩) m d] 77)).alloc (.cells #[.int .i64 0,.slice none 0 0,.slice none 0 0] 77)):=(Ib).alloc (by simp) _;have z1:((w.alloc (.cells #[.int .i64 l,.slice A n c,.slice (some ⟨g,o,none⟩) m d] 77)).alloc (.cells #[.int .i64 0,.slice none 0 0,.slice none 0 0] 77)).1.size=w.1.size+2:=by simp
 have q2:=G.c2;have D:=(q.cell (p:=⟨g,_,none⟩) hg).trans k3;have Hn:=Lib.hid (λu hu tu=>H.node u hu tu x);have zw:=B0.size;have hj:(0:Int)<=(i:Int):=by omega
 have a1:(i:Int)<(m:Int):=by omega
 obtain⟨_,a7⟩:=hK.bounds;clear k3 hK;obtain⟨M,E,hR⟩:∃M E,R x=(M,E):=⟨_,_,rfl⟩;rw[hR] at Hn;unfold Qrw Qo4;rw[hR];dsimp only;clear hR;by_cases K:E=0
 ·have g1:(E==0)=true:=by simp[K]
  have g2:(E != 0)=false:=by simp[K]
  by_cases T:M.lvl=l-1
  ·have g3:(M.lvl==l-1)=true:=by simp[T]
   have g4:(M.lvl != l-1)=false:=by simp[T]
   simp only[if_neg (show ¬E≠0 by simpa using K),if_neg (show ¬M.lvl≠l-1 by simpa using T)];clear T K;go_enter Tryz.func98,Tryz.ntmps98
   go_wp2_with fail
   generalize (w.alloc (.cells #[.int .i64 l,.slice A n c,.slice (some ⟨g,o,none⟩) m d] 77)).alloc (.cells #[.int .i64 0,.slice none 0 0,.slice none 0 0] 77)=w1 at G O q z1 q2 D ⊢;have t1:=ht.below q ht.1;refine (Hn.out w1 (B0.trans (q.mono zw)) t1).mono ?_;clear q2 D;rintro e f ⟨U,n1,c1,V,m1,W,rfl,Z,Y,hI,X,y⟩;have z2:=y.size;have N2:=G.below y G.lt;have F:=O.below y O.lt;have P:=q.trans (y.mono q.size);have N3:NB (f.alloc (.cells #[.int .i64 0,.slice none 0 0,.slice none 0 0] 77)) f.1.size 0 none 0 0 none 0 0:=NB.new f _ _ _ _ _ _ _ _;have J:Below f.1.size f (f.alloc (.cells #[.int .i64 0,.slice none 0 0,.slice none 0 0] 77)):=Ib;have R3:=F.below J F.lt;have zz:=F.lt;have X2:NB f w.1.size l A n c (some ⟨g,o,none⟩) m d:=N2;go_wp2_with (first
    |(refine Ir rfl (.tmp 6) _ rfl (w.1.size+1) rfl M.lvl U n1 c1 V m1 W rfl R4 ?_;intro w5 R5 T5)
    |(refine Ir rfl (.tmp 8) _ rfl f.1.size rfl M.lvl U n1 c1 V m1 W rfl N3 ?_;intro w4 N4 I;have R4:NB w4 (w.1.size+1) 0 none 0 0 none 0 0:=R3.turned I (λh=>by have h:w.1.size+1=f.1.size:=h;omega);have p0:=N4.c0;have Fj:=((X2.below J X2.lt).turned I (λh=>by have h:w.1.size=f.1.size:=h;omega)).c0;have p1:=N4.c1;have p2:=N4.c2)
    |fail)
   have Q:Turn (λk=>k=w.1.size+1) f w5:=((Uk (S:=λk=>k=w.1.size+1) J).trans I (λx z=>.inr (by have:x=f.1.size:=z;omega))).trans T5 (λx z=>.inl z);refine bodyPost_ret (Md Tryz.results98 rfl (Nq R5)) rfl ?_;exact⟨U,n1,c1,V,m1,W,rfl,Z,Y,(Qlg hI Q.size λk h1 h2=>Q.block k h2 (by intro (h:k=w.1.size+1);omega)).less (by omega),(X.keep λk h1 h2=>Q.block k h2 (by intro (h:k=w.1.size+1);omega)).less (by omega),P.trans (Q.below (λk hk=>by have:k=w.1.size+1:=hk;omega) P.size)⟩
  ·have g3:(M.lvl==l-1)=false:=by simp[T]
   have g4:(M.lvl != l-1)=true:=by simp[T]
   simp only[if_neg (show ¬E≠0 by simpa using K),if_pos (show M.lvl≠l-1 from T)];clear T K;go_enter Tryz.func98,Tryz.ntmps98
   go_wp2_with fail
   generalize (w.alloc (.cells #[.int .i64 l,.slice A n c,.slice (some ⟨g,o,none⟩) m d] 77)).alloc (.cells #[.int .i64 0,.slice none 0 0,.slice none 0 0] 77)=w1 at G O q z1 q2 D ⊢;have t1:=ht.below q ht.1;refine (Hn.out w1 (B0.trans (q.mono zw)) t1).mono ?_;clear q2 D;rintro e f ⟨U,n1,c1,V,m1,W,rfl,Z,Y,hI,X,y⟩;have z2:=y.size;have N2:=G.below y G.lt;have F:=O.below y O.lt;have P:=q.trans (y.mono q.size);have N3:NB (f.alloc (.cells #[.int .i64 0,.slice none 0 0,.slice none 0 0] 77)) f.1.size 0 none 0 0 none 0 0:=NB.new f _ _ _ _ _ _ _ _;have J:Below f.1.size f (f.alloc (.cells #[.int .i64 0,.slice none 0 0,.slice none 0 0] 77)):=Ib;have R3:=F.below J F.lt;have zz:=F.lt;have X2:NB f w.1.size l A n c (some ⟨g,o,none⟩) m d:=N2;go_wp2_with (first
    |(refine Ir rfl (.tmp 6) _ rfl (w.1.size+1) rfl 0 none 0 0 none 0 0 rfl R4 ?_;intro w5 R5 T5)
    |(refine Ir rfl (.tmp 8) _ rfl f.1.size rfl M.lvl U n1 c1 V m1 W rfl N3 ?_;intro w4 N4 I;have R4:NB w4 (w.1.size+1) 0 none 0 0 none 0 0:=R3.turned I (λh=>by have h:w.1.size+1=f.1.size:=h;omega);have p0:=N4.c0;have Fj:=((X2.below J X2.lt).turned I (λh=>by have h:w.1.size=f.1.size:=h;omega)).c0)
    |fail)
   have Q:Turn (λk=>k=w.1.size+1) f w5:=((Uk (S:=λk=>k=w.1.size+1) J).trans I (λx z=>.inr (by have:x=f.1.size:=z;omega))).trans T5 (λx z=>.inl z);refine bodyPost_ret (Md Tryz.results98 rfl (Nq R5)) rfl ?_;exact⟨none,0,0,none,0,0,rfl,by omega,by omega,Ob _ _,Lp _ _ _ _,P.trans (Q.below (λk hk=>by have:k=w.1.size+1:=hk;omega) P.size)⟩
 ·have g1:(E==0)=false:=by simp[K]
  have g2:(E != 0)=true:=by simp[K]
  simp only[if_pos (show E≠0 from K)];clear K;go_enter Tryz.func98,Tryz.ntmps98
  go_wp2_with fail
  generalize (w.alloc (.cells #[.int .i64 l,.slice A n c,.slice (some ⟨g,o,none⟩) m d] 77)).alloc (.cells #[.int .i64 0,.slice none 0 0,.slice none 0 0] 77)=w1 at G O q z1 q2 D ⊢;have t1:=ht.below q ht.1;refine (Hn.out w1 (B0.trans (q.mono zw)) t1).mono ?_;clear q2 D;rintro e f ⟨U,n1,c1,V,m1,W,rfl,Z,Y,hI,X,y⟩;have z2:=y.size;have N2:=G.below y G.lt;have F:=O.below y O.lt;have P:=q.trans (y.mono q.size);have N3:NB (f.alloc (.cells #[.int .i64 0,.slice none 0 0,.slice none 0 0] 77)) f.1.size 0 none 0 0 none 0 0:=NB.new f _ _ _ _ _ _ _ _;have J:Below f.1.size f (f.alloc (.cells #[.int .i64 0,.slice none 0 0,.slice none 0 0] 77)):=Ib;have R3:=F.below J F.lt;have zz:=F.lt;have X2:NB f w.1.size l A n c (some ⟨g,o,none⟩) m d:=N2;go_wp2_with (first
   |(refine Ir rfl (.tmp 6) _ rfl (w.1.size+1) rfl 0 none 0 0 none 0 0 rfl R4 ?_;intro w5 R5 T5)
   |(refine Ir rfl (.tmp 8) _ rfl f.1.size rfl M.lvl U n1 c1 V m1 W rfl N3 ?_;intro w4 N4 I;have R4:NB w4 (w.1.size+1) 0 none 0 0 none 0 0:=R3.turned I (λh=>by have h:w.1.size+1=f.1.size:=h;omega))
   |fail)
  have Q:Turn (λk=>k=w.1.size+1) f w5:=((Uk (S:=λk=>k=w.1.size+1) J).trans I (λx z=>.inr (by have:x=f.1.size:=z;omega))).trans T5 (λx z=>.inl z);refine bodyPost_ret (Md Tryz.results98 rfl (Nq R5)) rfl ?_;exact⟨none,0,0,none,0,0,rfl,by omega,by omega,Ob _ _,Lp _ _ _ _,P.trans (Q.below (λk hk=>by have:k=w.1.size+1:=hk;omega) P.size)⟩
structure SAt (w:World)(lim base vb mb tb:Nat)(most:Int)(tk:Kd)(A:Option Addr)(acc:List Qq):Prop where
 var:∃t c,w.heap[vb]?=some (.cells #[.slice A acc.length c] t (0,0))/\Zn w lim A acc.length c acc/\∀k,Xq A=some k->base<=k
 many:∃t,w.heap[mb]?=some (.cells #[.int .i64 most] t (0,0))
 last:KB w tb tk
 Zgh:lim<=base
 lt:vb<base/\mb<base/\tb<base/\base<=w.heap.size/\mb≠vb/\tb≠vb
theorem SAt.below {w w':World}{lim base vb mb tb:Nat}{most:Int}{tk:Kd}{A:Option Addr}{acc:List Qq}(h:SAt w lim base vb mb tb most tk A acc)(hb:Below w.1.size w w'):SAt w' lim base vb mb tb most tk A acc:=by
 obtain⟨⟨t,c,h1,h2,f⟩,⟨u,g⟩,p,q,e⟩:=h;exact⟨⟨t,c,(hb.block vb (Jq h1)).trans h1,h2.below hb,f⟩,⟨u,(hb.block mb (Jq g)).trans g⟩,p.below hb p.lt,q,⟨e.1,e.2.1,e.2.2.1,Nat.le_trans e.2.2.2.1 hb.size,e.2.2.2.2⟩⟩
theorem Zff {w:World}{vb:Nat}{A:Option Addr}{n c:Nat}{t:TypeId}(E:w.1[vb]?=some (.cells #[.slice A n c] t (0,0))){V:Option Addr}{p q:Nat}{x:List UInt8}(h:Sl w V p q x)(F:x≠[]):∀k,Xq V=some k->k≠vb:=λk f e=>by
 subst e;have D:0<x.length:=List.length_pos_iff.2 F;obtain⟨g,u,H,y⟩:=h.2.2.2 0 (bv x[0]) (by rw[List.getElem?_map,List.getElem?_eq_getElem D];rfl);rw[u] at f;have f:g.block=k:=Option.some.inj f;have h1:w.1[(g.add 0).block]?=some (.cells #[.slice A n c] t (0,0)):=by rw[Y7,f];exact E
 have h2:=Qnx h1 y;obtain⟨z,G⟩:∃z,(g.add 0).off=z:=⟨_,rfl⟩;rw[G] at h2;match z,h2 with
 |0,h2=>injection h2 with h2;cases h2
 |z+1,h2=>simp at h2
theorem Qvv {w w':World}{base vb n c I c2:Nat}{A D:Option Addr}{t:TypeId}{xs:List Qq}(h:Zn w base A n c xs)(H:w.1[vb]?=some (.cells #[.slice D I c2] t (0,0)))(F:∀k,Xq A=some k->k≠vb)(T:Turn (λk=>k=vb) w w'):Zn w' base A n c xs:=by
 obtain⟨y,h1,h2,E⟩:=h;refine⟨y,h1.turned T (λk f=>F k f),h2,λj r x G u=>?_⟩;obtain⟨V,p,q,e,z,g⟩:=E j r x G u;exact⟨V,p,q,e,z.turned' T (λu k f=>Zff H z u k f),g⟩
theorem Qg6 {w:World}{lim base vb mb tb:Nat}{most:Int}{«to»:Kd}{A:Option Addr}{f:List Qq}(h:SAt w lim base vb mb tb most «to» A f)(k:Kd)(r:Bool)(g:(decide ((f.length:Int)<most)&&!(«to».less k))=r) :
  Calls Tryz.prog 54 #[.agg #[.int .i64 k.obj,.int .i64 k.kind,.int .i64 k.off],.pointer (some ⟨vb,0,none⟩),.pointer (some ⟨mb,0,none⟩),.pointer (some ⟨tb,0,none⟩)] w λe w'=>e=.returned (.bool r)/\Below w.1.size w w':=by
 obtain⟨u,p⟩:=Qap w k;have h1:=h.below p;obtain⟨⟨t,c,y,-⟩,⟨J,hm⟩,q,-,-⟩:=h1;have c0:=cell_of_one y;have c1:=cell_of_one hm;have D:=u.c0;have E:=u.c1;have F:=u.c2;have G:=q.c0;have H:=q.c1;have I:=q.c2;clear y hm q h;by_cases hn:(f.length:Int)<most
 ·rw[decide_eq_true hn,Bool.true_and] at g;have Hl:=Lib.hid (Qpb «to» k (w.alloc (.cells #[.int .i64 k.obj,.int .i64 k.kind,.int .i64 k.off] 45)));have Hr:=Lib.hid g;clear g;go_enter Tryz.func54,Tryz.ntmps54
  go_wp2_with fail
  refine Hl.out.mono ?_;rintro e K ⟨rfl,z⟩;go_wp2_with fail
  go_ret;exact⟨by rw[<-Hr.out];rfl,p.trans (z.mono p.size)⟩
 ·rw[decide_eq_false hn,Bool.false_and] at g;subst g;go_enter Tryz.func54,Tryz.ntmps54
  go_wp2_with fail
  go_ret;exact⟨rfl,p⟩
theorem Qu2 {w:World}{lim base vb mb tb:Nat}{most:Int}{«to»:Kd}{A:Option Addr}{f:List Qq}(h:SAt w lim base vb mb tb most «to» A f)(x:Qq)(V:Option Addr)(p q:Nat)(hs:Sl w V p q x.v)(hV:x.v≠[]->∀g,Xq V=some g->lim<=g/\Xq A≠some g)(hn:f.length<=100000) :
  Calls Tryz.prog 57 #[.agg #[.int .i64 x.k.obj,.int .i64 x.k.kind,.int .i64 x.k.off,.slice V p q],.pointer (some ⟨vb,0,none⟩)] w λe w'=>e=.returned (.tuple #[])/\∃I,SAt w' lim base vb mb tb most «to» I (f++[x])/\Turn (λk=>k=vb\/Xq A=some k) w w'/\∀k,Xq I=some k->Xq A=some k\/w.1.size<=k:=by
 have J:Below w.1.size w ((w.alloc (.cells #[.int .i64 x.k.obj,.int .i64 x.k.kind,.int .i64 x.k.off,.slice V p q] 50)).alloc (.cells #[.int .i64 x.k.obj,.int .i64 x.k.kind,.int .i64 x.k.off,.slice V p q] 50)):=(Ib).alloc (by simp) _;have b0:Below w.1.size w (w.alloc (.cells #[.int .i64 x.k.obj,.int .i64 x.k.kind,.int .i64 x.k.off,.slice V p q] 50)):=Ib;have z1:((w.alloc (.cells #[.int .i64 x.k.obj,.int .i64 x.k.kind,.int .i64 x.k.off,.slice V p q] 50)).alloc (.cells #[.int .i64 x.k.obj,.int .i64 x.k.kind,.int .i64 x.k.off,.slice V p q] 50)).1.size=w.1.size+2:=by simp
 have u:(w.alloc (.cells #[.int .i64 x.k.obj,.int .i64 x.k.kind,.int .i64 x.k.off,.slice V p q] 50)).1[w.1.size]?=some (.cells #[.int .i64 x.k.obj,.int .i64 x.k.kind,.int .i64 x.k.off,.slice V p q] 50 (0,0)):=heap_alloc_new w _;have q0:(w.alloc (.cells #[.int .i64 x.k.obj,.int .i64 x.k.kind,.int .i64 x.k.off,.slice V p q] 50)).cell? ⟨w.1.size,0,none⟩=some (.int .i64 x.k.obj):=by rw[cell_of_row _ _ _ _ _ _ u];rfl
 have q1:(w.alloc (.cells #[.int .i64 x.k.obj,.int .i64 x.k.kind,.int .i64 x.k.off,.slice V p q] 50)).cell? ⟨w.1.size,1,none⟩=some (.int .i64 x.k.kind):=by rw[cell_of_row _ _ _ _ _ _ u];rfl
 have q2:(w.alloc (.cells #[.int .i64 x.k.obj,.int .i64 x.k.kind,.int .i64 x.k.off,.slice V p q] 50)).cell? ⟨w.1.size,2,none⟩=some (.int .i64 x.k.off):=by rw[cell_of_row _ _ _ _ _ _ u];rfl
 have q3:(w.alloc (.cells #[.int .i64 x.k.obj,.int .i64 x.k.kind,.int .i64 x.k.off,.slice V p q] 50)).cell? ⟨w.1.size,3,none⟩=some (.slice V p q):=by rw[cell_of_row _ _ _ _ _ _ u];rfl
 have F:Zg ((w.alloc (.cells #[.int .i64 x.k.obj,.int .i64 x.k.kind,.int .i64 x.k.off,.slice V p q] 50)).alloc (.cells #[.int .i64 x.k.obj,.int .i64 x.k.kind,.int .i64 x.k.off,.slice V p q] 50)) 4 (some ⟨w.1.size+1,0,none⟩) 1 1 [Yp x.k V p q]:=by
  have:=(Np (w.alloc (.cells #[.int .i64 x.k.obj,.int .i64 x.k.kind,.int .i64 x.k.off,.slice V p q] 50)) 50 4 (Yp x.k V p q) _ rfl rfl).Hr (by omega);rwa [World.size_alloc] at this
 obtain⟨⟨t,c,hv,row,E⟩,⟨t2,hm⟩,z,T,⟨l1,l2,l3,l4,l5,l6⟩⟩:=h;have Z:=Jq hv;have a7:=Jq hm;have a6:=z.lt;have c0:=cell_of_one ((b0.block vb Z).trans hv);have Y:=(J.block vb Z).trans hv;have U:=(J.block mb a7).trans hm;have Q:=z.below J a6;have a2:=row.below J;have P:∀k,Xq A=some k->base<=k/\k<w.1.size:=λk y=>⟨E k y,(row.Zx k y).2⟩
 have b2:=hs.below J;clear row hv hm z hs u;go_enter Tryz.func57,Tryz.ntmps57
 go_wp2_with (first
  |(at_builtin;refine Qdg rfl _ _ rfl lim A f.length c f rfl a2 (some ⟨w.1.size+1,0,none⟩) 1 x V p q rfl F b2 hV hn (by omega) ?_)
  |fail)
 intro I c6 w3 a1 K G;have H:∀b,b<base->¬Xq A=some b:=λb hb h=>by have:=(P b h).1;omega
 have D:=(K.block vb (by omega) (H vb l1)).trans Y;have h3:=cell_of_one D;have f3:=free_of_one D;have a8:∀k,Xq I=some k->k≠vb:=λk y e=>by
  rcases G with h|h
  ·rw[h] at y;have:=(P k y).1;omega
  ·rw[h] at y;have:=Option.some.inj y;omega
 have O:Turn (λk=>k=vb) w3 (w3.setCell ⟨vb,0,none⟩ (.slice I (f.length+1) c6)):=Gi (a:=⟨vb,0,none⟩) _ rfl;have z3:=K.size;have W:=(K.block mb (by omega) (H mb l2)).trans U;have R:=Q.keep (K.block tb (by omega) (H tb l3));have X:=Jq W;clear c0 q0 q1 q2 q3 F U Q Y;go_wp2;go_end0
 have e:(f++[x]).length=f.length+1:=by simp
 refine⟨rfl,I,⟨⟨t,c6,by rw[e];exact one_setCell D,by rw[e];exact Qvv a1 D a8 O,λk y=>?_⟩,⟨t2,(O.block mb X l5).trans W⟩,R.keep (O.block tb R.lt l6),T,⟨l1,l2,l3,by have:=O.size;omega,l5,l6⟩⟩,((Uk (S:=λk=>k=vb\/Xq A=some k) J).trans K (λk h=>.inl (.inr h))).trans O (λk h=>.inl (.inl h)),λk y=>?_⟩
 ·rcases G with h|h
  ·exact E k (h▸y)
  ·rw[h] at y;have:=Option.some.inj y;omega
 ·rcases G with h|h
  ·exact .inl (h▸y)
  ·rw[h] at y;have:=Option.some.inj y;exact .inr (by omega)
def Qcr (R:Int->Nd × Int)(fr «to»:Kd)(most:Nat):Nat->Nd->List Qq->List Qq × Int
 |0,M,acc=>((acc++within fr «to» M.items).take most,0)
 |l+1,M,acc=>P5 (Ny R fr «to» most l) «to» most (M.kids.drop (M.Xv fr)) acc
theorem Qfy {R:Int->Nd × Int}{fr «to»:Kd}{most:Nat}{a:Int}{M:Nd}(h:R a=(M,0))(e:List Qq):∀{l:Nat},M.lvl=(l:Int)->Ny R fr «to» most l a e=Qcr R fr «to» most l M e
 |0,hl=>by
  unfold Ny Qcr;rw[h];dsimp only;rw[if_neg (by simp),if_neg (by simpa using hl)]
 |l+1,hl=>by
  unfold Ny Qcr;rw[h];dsimp only;rw[if_neg (by simp),if_neg (by simpa using hl)]
theorem Qdx {R:Int->Nd × Int}{fr «to»:Kd}{most:Nat}{a:Int}(h:(R a).2≠0)(e:List Qq):∀l:Nat,Ny R fr «to» most l a e=([],(R a).2)
 |0=>by unfold Ny;rw[if_pos h]
 |l+1=>by unfold Ny;rw[if_pos h]
theorem Qgx {R:Int->Nd × Int}{fr «to»:Kd}{most:Nat}{a:Int}(h:(R a).2=0)(e:List Qq):∀{l:Nat},(R a).1.lvl≠(l:Int)->Ny R fr «to» most l a e=([],5)
 |0,hl=>by unfold Ny;rw[if_neg (by simpa using h),if_pos (by simpa using hl)]
 |l+1,hl=>by unfold Ny;rw[if_neg (by simpa using h),if_pos hl]
theorem Qju {f:Int->List Qq->List Qq × Int}{«to»:Kd}{most:Nat}:∀(kids:List Qk) (e:List Qq),(P5 f «to» most kids e).2≠0->(P5 f «to» most kids e).1=[]
 |[],e,h=>absurd rfl h
 |x::r,e,h=>by
  unfold P5 at h ⊢;by_cases g:«to».less x.k=true\/most<=e.length
  ·rw[if_pos g] at h;exact absurd rfl h
  ·rw[if_neg g] at h ⊢;by_cases h1:(f x.a e).2=0
   ·rw[if_neg (by simpa using h1)] at h ⊢;exact Qju r _ h
   ·rw[if_pos h1]
theorem Qsp {R:Int->Nd × Int}{fr «to»:Kd}{most:Nat}:∀(l:Nat) (M:Nd) (e:List Qq),(Qcr R fr «to» most l M e).2≠0->(Qcr R fr «to» most l M e).1=[]
 |0,_,_,h=>absurd rfl h
 |_+1,_,_,h=>Qju _ _ h
def Nc (R:Int->Nd × Int):Nat->Int->Nat
 |0,a=>if (R a).2≠0 then 0 else (R a).1.items.length
 |l+1,a=>if (R a).2≠0 then 0 else ((R a).1.kids.map λx=>Nc R l x.a).sum
def Qef (R:Int->Nd × Int):Nat->Nd->Nat
 |0,M=>M.items.length
 |l+1,M=>(M.kids.map λx=>Nc R l x.a).sum
theorem Qaj {R:Int->Nd × Int}{a:Int}{M:Nd}(h:R a=(M,0)):∀l,Nc R l a=Qef R l M
 |0=>by unfold Nc Qef;rw[h];dsimp only;rw[if_neg (by simp)]
 |l+1=>by unfold Nc Qef;rw[h];dsimp only;rw[if_neg (by simp)]
theorem Qqf (l:List Nat):∀n,(l.drop n).sum<=l.sum:=λn=>by
 conv=>rhs;rw[<-List.take_append_drop n l]
 rw[List.sum_append];omega
theorem Ql1 {f:Int->List Qq->List Qq × Int}{«to»:Kd}{most:Nat}{cnt:Int->Nat}(p:∀x e,e.length<=most->(f x e).2=0->(f x e).1.length<=most/\(f x e).1.length<=e.length+cnt x) :
  ∀(kids:List Qk) (e:List Qq),e.length<=most->(P5 f «to» most kids e).2=0->(P5 f «to» most kids e).1.length<=most/\(P5 f «to» most kids e).1.length<=e.length+(kids.map λx=>cnt x.a).sum
 |[],e,ha,_=>by
  unfold P5;exact⟨ha,by simp⟩
 |x::r,e,ha,h0=>by
  unfold P5 at h0 ⊢;by_cases g:«to».less x.k=true\/most<=e.length
  ·rw[if_pos g];exact⟨ha,by simp⟩
  ·rw[if_neg g] at h0 ⊢;by_cases h1:(f x.a e).2=0
   ·rw[if_neg (by simpa using h1)] at h0 ⊢;obtain⟨q,y⟩:=p x.a e ha h1;obtain⟨u,z⟩:=Ql1 p r _ q h0;refine⟨u,?_⟩;rw[List.map_cons,List.sum_cons];omega
   ·rw[if_pos h1] at h0;exact absurd h0 h1
theorem Ql2 {R:Int->Nd × Int}{fr «to»:Kd}{most:Nat}:∀(l:Nat) (a:Int) (e:List Qq),e.length<=most->(Ny R fr «to» most l a e).2=0->(Ny R fr «to» most l a e).1.length<=most/\(Ny R fr «to» most l a e).1.length<=e.length+Nc R l a
 |0,a,e,ha,h0=>by
  by_cases h1:(R a).2=0
  ·by_cases h2:(R a).1.lvl=0
   ·have f:R a=((R a).1,0):=Prod.ext rfl h1;rw[Qfy f e (l:=0) (by simpa using h2),Qaj f];unfold Qcr Qef;dsimp only;have:(within fr «to» (R a).1.items).length<=(R a).1.items.length:=List.length_filter_le ..;rw[List.length_take,List.length_append];omega
   ·rw[Qgx h1 e (l:=0) (by simpa using h2)] at h0
    cases h0
  ·rw[Qdx h1] at h0;exact absurd h0 h1
 |l+1,a,e,ha,h0=>by
  by_cases h1:(R a).2=0
  ·by_cases h2:(R a).1.lvl=((l+1:Nat):Int)
   ·have f:R a=((R a).1,0):=Prod.ext rfl h1;rw[Qfy f e h2] at h0 ⊢;rw[Qaj f];unfold Qcr at h0 ⊢;obtain⟨g,p⟩:=Ql1 (cnt:=Nc R l) (λx e q h=>Ql2 l x e q h) _ _ ha h0;refine⟨g,Nat.le_trans p ?_⟩;show _<=e.length+((R a).1.kids.map λx=>Nc R l x.a).sum;rw[List.map_drop];have:=Qqf ((R a).1.kids.map λx=>Nc R l x.a) ((R a).1.Xv fr);omega
   ·rw[Qgx h1 e h2] at h0
    cases h0
  ·rw[Qdx h1] at h0;exact absurd h0 h1
theorem Ql9 (f:Qk->Nat):∀(kids:List Qk) (parts:List (List Qq)),parts.length=kids.length->(∀j,j<kids.length->f (Ql kids j)<=(parts.getD j []).length)->(kids.map f).sum<=parts.flatten.length
 |[],parts,_,_=>by simp
 |x::r,[],h,_=>by simp at h
 |x::r,p::ps,h,hf=>by
  rw[List.map_cons,List.sum_cons,List.flatten_cons,List.length_append];have h0:=hf 0 (by simp);have h0:f x<=p.length:=h0;have:=Ql9 f r ps (by simpa using h) λj g=>by
   have:=hf (j+1) (by simpa using g);rw[getD_cons_succ] at this;have e:Ql (x::r) (j+1)=Ql r j:=by unfold Ql;rw[getD_cons_succ]
   rwa [e] at this
  omega
theorem Qiz {R R':Int->Nd × Int}(h:Qxk R R'):∀{l:Nat} {a:Int} {its:List Qq},Qe R l a its->Nc R' l a<=its.length
 |0,a,its,hh=>by
  rcases h a (by rw[hh.1]) with e|e
  ·unfold Nc;rw[e,hh.1];simp
  ·unfold Nc;rw[if_pos (by rw[e];decide)];omega
 |l+1,a,its,hh=>by
  obtain⟨kids,parts,h1,h2,g,rfl,p⟩:=hh;rcases h a (by rw[h1]) with e|e
  ·have f:R' a=(⟨((l+1:Nat):Int),[],kids⟩,0):=e.trans h1;rw[Qaj f];unfold Qef;exact Ql9 _ kids parts g λj q=>Qiz h (p j q).1
  ·unfold Nc;rw[if_pos (by rw[e];decide)];omega
theorem Qv6 (R:Int->Nd × Int):Qxk R R:=λ_ _=>.inl rfl
theorem Qs2 {R R':Int->Nd × Int}(f:Qxk R R'){root:Int}{its:List Qq}(h:Ua R root its)(h0:root≠0):Nc R' (Yq R' root) root<=its.length:=by
 rcases h with⟨rfl,rfl⟩|⟨l,_,h,h1,_⟩
 ·exact absurd rfl h0
 ·obtain⟨g,q,p⟩:=Gv h;rcases f root p with e|e
  ·have:Yq R' root=l:=by unfold Yq;rw[e];exact g
   rw[this];exact Qiz f h
  ·generalize Yq R' root=m
   cases m with
   |zero=>unfold Nc;rw[if_pos (by rw[e];decide)];omega
   |succ m=>unfold Nc;rw[if_pos (by rw[e];decide)];omega
theorem Qy6 (R:Int->Nd × Int)(fr «to»:Kd)(most:Nat){l:Nat}{L:Int}(u:L=((l+1:Nat):Int))(x:Int)(e:List Qq) :
  (Qo4 R L x≠0/\Ny R fr «to» most l x e=([],Qo4 R L x))\/(Qo4 R L x=0/\R x=(Qrw R L x,0)/\(Qrw R L x).lvl=(l:Int)/\Ny R fr «to» most l x e=Qcr R fr «to» most l (Qrw R L x) e):=by
 by_cases h1:(R x).2=0
 ·have f:Qo4 R L x=if (R x).1.lvl≠L-1 then 5 else 0:=if_neg (by simpa using h1)
  have g:Qrw R L x=if (R x).1.lvl≠L-1 then Qu else (R x).1:=if_neg (by simpa using h1)
  by_cases h2:(R x).1.lvl=L-1
  ·rw[if_neg (by simpa using h2)] at f g;have q:(R x).1.lvl=(l:Int):=by omega
   have p:R x=((R x).1,0):=Prod.ext rfl h1;rw[f,g];exact .inr ⟨rfl,p,q,Qfy p e q⟩
  ·rw[if_pos h2] at f;rw[f];exact .inl ⟨by omega,Qgx h1 e (λh=>h2 (by omega))⟩
 ·have f:Qo4 R L x=(R x).2:=if_pos h1;rw[f];exact .inl ⟨h1,Qdx h1 e l⟩
theorem Qya {l:List Qk}{j:Nat}(h:j<l.length):l.drop j=Ql l j::l.drop (j+1):=by
 have e:=q32 h;rw[List.getElem?_eq_getElem h] at e;rw[<-List.getElem_cons_drop (h:=h),Option.some.inj e]
def Qcg (vb:Nat)(A:Option Addr):Nat->Prop:=λk=>k=vb\/Xq A=some k
theorem Qq5 {p:Nat}(fr «to»:Kd)(most:Int){lim base vb mb tb:Nat}(w:World)(M:Nd)(lo hi:Nat)(K:Option Addr)(D c1:Nat)(O:Option Addr)(U Q:Nat)(A:Option Addr)(u:List Qq)
  (S:SAt w lim base vb mb tb most «to» A u) (Hd:Held w lo hi K D c1 O U Q M) (W:∀k,lo<=k->k<hi->¬Qcg vb A k) (d2:lim<=lo) (Y:M.may=true) (hl:M.lvl=0) (ha:u.length<=most.toNat) (hc:u.length+M.items.length<=100000) :
  Calls Tryz.prog 56 #[.pointer (some ⟨p,0,none⟩),.agg #[.int .i64 M.lvl,.slice K D c1,.slice O U Q],.agg #[.int .i64 fr.obj,.int .i64 fr.kind,.int .i64 fr.off],.func (.func 54) #[] #[.pointer (some ⟨vb,0,none⟩),.pointer (some ⟨mb,0,none⟩),.pointer (some ⟨tb,0,none⟩)],.func (.func 57) #[] #[.pointer (some ⟨vb,0,none⟩)]] w λe w'=>
   e=.returned (.int .i64 0)/\∃H,SAt w' lim base vb mb tb most «to» H ((u++within fr «to» M.items).take most.toNat)/\Turn (Qcg vb A) w w'/\∀k,Xq H=some k->Xq A=some k\/w.1.size<=k:=by
 obtain⟨hM,Z,c9,d0⟩:=q12 Y hl;obtain⟨t,a2⟩:∃t,M.Xv fr=t:=⟨_,rfl⟩;obtain⟨r,hr⟩:∃r,foundAt M.keys fr t=r:=⟨_,rfl⟩;have b9:t=lead (M.items.map (·.k)) fr:=by
  rw[<-a2,hM];unfold Nd.Xv;rw[if_pos rfl,Ry]
 have c6:t<=M.items.length:=by have:=Qfh (M.items.map (·.k)) fr;rw[List.length_map] at this;omega
 have hG:Qfx «to» most.toNat (M.items.drop t) u=(u++within fr «to» M.items).take most.toNat:=by rw[b9];exact Qv5 Z fr «to» u ha
 obtain⟨G,b3⟩:∃G,(u++within fr «to» M.items).take most.toNat=G:=⟨_,rfl⟩;rw[b3] at hG ⊢;have N1:NB ((w.alloc (.cells #[.int .i64 M.lvl,.slice K D c1,.slice O U Q] 77)).alloc (.cells #[.int .i64 fr.obj,.int .i64 fr.kind,.int .i64 fr.off] 45)) w.1.size M.lvl K D c1 O U Q:=(NB.new w _ _ _ _ _ _ _ _).below (Ib) (by simp);have b1:Below w.1.size w ((w.alloc (.cells #[.int .i64 M.lvl,.slice K D c1,.slice O U Q] 77)).alloc (.cells #[.int .i64 fr.obj,.int .i64 fr.kind,.int .i64 fr.off] 45)):=(Ib).alloc (by simp) _;have z1:((w.alloc (.cells #[.int .i64 M.lvl,.slice K D c1,.slice O U Q] 77)).alloc (.cells #[.int .i64 fr.obj,.int .i64 fr.kind,.int .i64 fr.off] 45)).1.size=w.1.size+2:=by simp
 have K1:KB ((w.alloc (.cells #[.int .i64 M.lvl,.slice K D c1,.slice O U Q] 77)).alloc (.cells #[.int .i64 fr.obj,.int .i64 fr.kind,.int .i64 fr.off] 45)) (w.1.size+1) fr:=KB.new2 w _ fr.obj fr.kind fr.off _;have J:M.items.length=D:=Hd.rows.1.Qaf.len;have c8:∀k,Qcg vb A k->k<w.1.size:=λk F=>by
  obtain⟨⟨_,_,hv,row,_⟩,_⟩:=S;rcases F with rfl|F
  ·exact Jq hv
  ·exact (row.Zx k F).2
 have S1:=S.below b1;have P:=Hd.below b1;obtain⟨r1,s1⟩:=P.rows;have a7:=Lib.hid (Qbn M (U0 Y) fr t a2 r hr K D c1 O U Q _ r1.Qaf s1 (by have:=Hd.2.1;omega) (by have:=Hd.2.2.1;omega));have g1:(M.lvl==0)=true:=by rw[hl];rfl
 have g2:decide (M.lvl=0)=true:=decide_eq_true hl;rw[J] at c6 hc;have HG:=Lib.hid hG;have J:=Lib.hid J;have p0:=N1.c0;have p1:=N1.c1;have p2:=N1.c2;have k0:=K1.c0;have k1:=K1.c1;have k2:=K1.c2;clear hM Z c9 d0 a2 hr b9 hG b3 r1 s1 hl K1 S Hd;go_enter Tryz.func56,Tryz.ntmps56
 go_wp2_with fail
 refine a7.out.mono ?_;generalize (w.alloc (.cells #[.int .i64 M.lvl,.slice K D c1,.slice O U Q] 77)).alloc (.cells #[.int .i64 fr.obj,.int .i64 fr.kind,.int .i64 fr.off] 45)=w1 at N1 b1 z1 S1 P p0 p1 p2 k0 k1 k2 ⊢;rintro e w2 ⟨rfl,b2⟩;have N2:=N1.below b2 N1.lt;have S2:=S1.below b2;have a6:=P.below b2;have B2:=b1.trans (b2.mono b1.size);have z2:=b2.size;clear p0 p1 p2 k0 k1 k2 a7 N1 S1 P b1 b2;have p0:=N2.c0;go_wp2_with fail
 clear p0;go_loopw [11] (λiv wr=>∃(j:Nat) (H:Option Addr) (f:List Qq),j<=D/\iv=.int .i64 (j:Int)/\SAt wr lim base vb mb tb most «to» H f/\Qfx «to» most.toNat (M.items.drop j) f=G/\f.length+(D-j)<=100000/\Turn (Qcg vb A) w2 wr/\∀k,Xq H=some k->Xq A=some k\/w2.1.size<=k) (λiv _=>D-(intOf iv).toNat)
 case atStart=>exact⟨t,A,u,c6,rfl,S2,HG.out,by omega,Turn.refl _ _,λk F=>.inl F⟩
 case round=>
  obtain⟨j,H,f,d5,rfl,S',z,d3,X,R⟩:=hrel;have Nr:=N2.turned X (λh=>by have:=c8 _ h;omega);have Hr:=a6.turn X W;have p1:=Nr.c1;have out:f=G->∃H,SAt wr lim base vb mb tb most «to» H G/\Turn (Qcg vb A) w wr/\∀k,Xq H=some k->Xq A=some k\/w.1.size<=k:=λe=>by
   refine⟨H,e▸S',(Uk (S:=Qcg vb A) B2).trans X (λk h=>.inl h),λk F=>(R k F).imp id λh=>by have:=B2.size;omega⟩
  have a8:=Lib.hid out;clear out;by_cases b8:j<D
  ·obtain⟨g,o,V,pp,qq,rfl,hg,c0,b0,c2,c3,hs,T⟩:=Hr.vals j b8;have b5:=Zcb (l:=M.items) (j:=j) (by rw[J.out];exact b8);rw[b5] at z;clear b5;obtain⟨x,hx⟩:∃x,Qx M.items j=x:=⟨_,rfl⟩;rw[hx] at c0 b0 c2 hs T z;clear hx;have e0:(0:Int)<=(j:Int):=by omega
   have e1:(j:Int)<(D:Int):=by omega
   obtain⟨_,d4⟩:=Hr.rows.1.Qaf.bounds;obtain⟨rr,y⟩:∃rr,(decide ((f.length:Int)<most)&&!(«to».less x.k))=rr:=⟨_,rfl⟩;have Hw:=Lib.hid (Qg6 S' x.k rr y)
   cases rr with
   |false=>
    have q:f=G:=by
     rw[<-z];unfold Qfx;rw[if_pos ?_];rw[Bool.and_eq_false_iff] at y;rcases y with h|h
     ·exact .inr (by have:=of_decide_eq_false h;omega)
     ·exact .inl (by simpa using h)
    have q:=Lib.hid q;clear z y hs T c3;go_wp2_with (first
     |(go_at_call 54;refine Hw.out.mono ?_;rintro e w4 ⟨rfl,E⟩)
     |fail)
    go_ret;obtain⟨A9,S9,X9,h9⟩:=a8.out q.out;exact⟨rfl,A9,S9.below E,X9.trans (Uk (S:=Qcg vb A) E) (λk h=>.inl h),h9⟩
   |true=>
    have b6:Qfx «to» most.toNat (M.items.drop (j+1)) (f++[x])=G:=by
     rw[<-z];conv=>rhs;unfold Qfx
     rw[if_neg ?_];rw[Bool.and_eq_true] at y;rintro (h|h)
     ·rw[h] at y;simp at y
     ·have:=of_decide_eq_true y.1;omega
    have I:x.v≠[]->∀g,Xq V=some g->lim<=g/\Xq H≠some g:=λhv b hb=>by
     obtain⟨h1,h2⟩:=T hv b hb;refine⟨Nat.le_trans d2 h1,λh=>?_⟩;rcases R b h with h3|h3
     ·exact W b h1 h2 (.inr h3)
     ·have:=a6.1;omega
    have c7:=Lib.hid b6;have Hs:=Lib.hid (λw4 (E:Below wr.1.size wr w4)=>Qu2 (S'.below E) x V pp qq (hs.below E) I (by omega));have a1:=Lib.hid (λw4 (E:Below wr.1.size wr w4)=>(⟨(E.cell (p:=⟨g,_,none⟩) hg).trans c0,(E.cell (p:=⟨g,_,none⟩) hg).trans b0,(E.cell (p:=⟨g,_,none⟩) hg).trans c2,(E.cell (p:=⟨g,_,none⟩) hg).trans c3⟩:_/\_/\_/\_));clear z y hs T b6 I;go_wp2_with (first
     |(go_at_call 54;refine Hw.out.mono ?_;rintro e w4 ⟨rfl,E⟩;obtain⟨y0,y1,y2,y3⟩:=a1.out w4 E;have q1:=(Nr.below E Nr.lt).c1)
     |(go_at_call 57;refine (Hs.out w4 E).mono ?_;rintro e w5 ⟨rfl,A5,S5,X5,h5⟩)
     |fail)
    refine⟨⟨j+1,A5,f++[x],by omega,by go_num,S5,c7.out,by simp;omega,(X.trans (Uk (S:=Qcg vb A) E) (λk h=>.inl h)).trans X5 (λk F=>?_),λk F=>?_⟩,by simp[intOf];omega⟩
    ·rcases F with rfl|F
     ·exact .inl (.inl rfl)
     ·exact (R k F).imp (λh=>.inr h) id
    ·rcases h5 k F with h|h
     ·exact R k h
     ·exact .inr (by have:=X.size;have:=E.size;omega)
  ·have b7:j=D:=by omega
   have q:f=G:=by
    rw[<-z,List.drop_eq_nil_of_le (by rw[J.out];omega)];rfl
   have q:=Lib.hid q;have e1:¬(j:Int)<(D:Int):=by omega
   clear z b7;go_wp2_with fail
   go_ret;obtain⟨A9,S9,X9,h9⟩:=a8.out q.out;exact⟨rfl,A9,S9,X9,h9⟩
