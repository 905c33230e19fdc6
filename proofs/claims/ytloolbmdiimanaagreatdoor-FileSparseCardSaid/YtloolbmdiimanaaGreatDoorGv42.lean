/- A tree that has files, beside blocks of the law's own: where it stands, and what one chang -/
import Derived.Test.YtloolbmdiimanaaGreatDoorGv41
namespace Go.Proofs.YtloolbmdiimanaaGreatDoor
open Go Go.RowKit Go.Proofs Tryz
set_option maxHeartbeats 8000000
set_option maxRecDepth 100000
structure Ft (b:Nat)(w:WD)(d p:Nat)(U Q V:NP)(D:DM)(P:Pl)(root:Int)(its:List Qb)(X:LI)(m:Nat)(g:Int):Prop where
 ed:Ed b w d p U D P (Gj root++X) m g
 sys:Fh b w d p U Q V D P
 tree:Xk (P.store D) root its
 Qg:Qg its
 fine:∀x∈its,Jb x
 data:∀a∈X,P.tell D a=(Jc,0)
structure Yb (D:DM)(P P':Pl)(its its':List Qb)(X:LI)(N:Kd->Prop)(w w':WD)(U V:NP):Prop where
 same:∀k,¬N k->valOf its' k=valOf its k/\(k.kind=3->∀t,Ij P D (valOf its k) t->Ij P' D (valOf its k) t)
 held:∀a∈X,P'.dat D a=P.dat D a
 like:P.like P'
 n:P'.C.n=P.C.n
 turn:Turn V w w'
 Ah:Turn U w w'
section
variable {b:Nat}{w w' w'':WD}{d p:Nat}{U Q V:NP}{D:DM}{P P' P'':Pl}{its its' its'':List Qb}{X X':LI}{m:Nat}{g:Int}{root r:Int}{N N':Kd->Prop}
theorem Ft.below (h:Ft b w d p U Q V D P root its X m g)(hb:Below w.1.size w w'):Ft b w' d p U Q V D P root its X m g:=⟨h.ed.below hb,h.sys.below hb,h.tree,h.Qg,h.fine,h.data⟩
theorem Ft.told (h:Ft b w d p U Q V D P root its X m g)(hl:its.length<=1000):Told w p (P.store D) root its:=⟨h.ed.src,h.tree,h.Qg,hl⟩
theorem Yb.refl (D:DM)(P:Pl)(its:List Qb)(X:LI)(N:Kd->Prop)(U V:NP)(hb:Below w.1.size w w'):Yb D P P its its X N w w' U V:=
 ⟨λ_ _=>⟨rfl,λ_ _ h=>h⟩,λ_ _=>rfl,.refl _,rfl,Zb hb,Zb hb⟩
theorem Yb.trans (h:Yb D P P' its its' X N w w' U V)(h2:Yb D P' P'' its' its'' X' N' w' w'' U V)(hX:∀a∈X',a∈X):Yb D P P'' its its'' X' (λk=>N k\/N' k) w w'' U V:=
 ⟨λk y=>by
  obtain⟨f,B⟩:=h.same k (λe=>y (.inl e));obtain⟨E,F⟩:=h2.same k (λe=>y (.inr e));exact⟨E.trans f,λA t G=>by have:=F A t (by rw[f];exact B A t G);rw[f] at this;exact this⟩,
  λa u=>(h2.held a u).trans (h.held a (hX a u)),h.like.trans h2.like,h2.n.trans h.n,h.turn.trans h2.turn λ_ h=>.inl h,h.Ah.trans h2.Ah λ_ h=>.inl h⟩
theorem Yb.wider (h:Yb D P P' its its' X N w w' U V)(hN:∀k,N k->N' k):Yb D P P' its its' X N' w w' U V:=
 ⟨λk f=>h.same k λe=>f (hN k e),h.held,h.like,h.n,h.turn,h.Ah⟩
theorem Yb.ahead (h:Yb D P P' its its' X N w' w'' U V)(hb:Below w.1.size w w'):Yb D P P' its its' X N w w'' U V:=
 ⟨h.same,h.held,h.like,h.n,(Zb hb).trans h.turn λ_ h=>.inl h,(Zb hb).trans h.Ah λ_ h=>.inl h⟩
theorem Yb.file (h:Yb D P P' its its' X N w w' U V){ino:Int}{b:LU}(F:Zt P D its ino b)(hN:∀c:Int,¬N ⟨ino,3,c⟩):Zt P' D its' ino b:=⟨F.few,λc e=>by
 obtain⟨h1,h2⟩:=h.same _ (hN (c:Int));rw[h1];exact h2 rfl _ (F.at_ c e)⟩
theorem Ft.room (h:Ft b w d p U Q V D P root its X m g):P.C.n<=P.C.free+(P.C.first+P.C.kept+(2*its.length+X.length)):=by
 have E:Ed b w d p U D P (Gj root++(X++[])) m g:=by rw[BM];exact h.ed
 have f:∀a∈X,P.Qe D a≠0:=λa e=>by
  obtain⟨A,y,K⟩:=h.ed.keep;exact (q53 K.Zl (h.data a e)).2
 have:=E.Qbl f h.tree (L:=[]) (λx u=>absurd u List.not_mem_nil) (λa e=>absurd e List.not_mem_nil);simpa using this
theorem Ft.dat (h:Ft b w d p U Q V D P root its X m g){x:Qb}(hx:x∈its):Dat (P.tell D) x:=by
 obtain⟨u,f,K⟩:=h.ed.keep;rcases h.tree with⟨rfl,_⟩|⟨l,_,e,_⟩
 ·cases hx
 ·have:=K.dat l _ _ (q2e.2 e) x hx;rwa [O9] at this
theorem qrm {k:Kd}{t:LU}(h0:t≠[]):Ky ⟨k,q0n t 0⟩=none:=by
 have e:q0n t 0=0::t:=AB λe=>h0 (BF e)
 unfold Ky;rw[e];refine AB λh=>?_
 have f:(0:Nat)=1:=h.2.2
 cases f
theorem qbe {k:Kd}(A:k.kind=3){c:Nat}(y:c<65536):Ky ⟨k,q0n [] (c:Int)⟩=some (c:Int):=by
 have e:q0n [] (c:Int)=1::Q8 (c:Int) 2:=rfl;have h1:Qq (Q8 (c:Int) 2)=c:=by rw[qfv];exact Nat.mod_eq_of_lt y
 unfold Ky;rw[e,AA ⟨A,by simp[Xz],rfl⟩];have h2:Qq (Q8 (c:Int) 2)=256*(256*0+(low (c:Int) 1).toNat)+(low (c:Int) 0).toNat:=rfl;have f:Xr (1::Q8 (c:Int) 2) 1=(low (c:Int) 1).toNat:=rfl;have u:Xr (1::Q8 (c:Int) 2) 2=(low (c:Int) 0).toNat:=rfl;rw[f,u];congr 1
 omega
theorem qrn (t:LU)(a:Int)(e:t.length<=24):(q0n t a).length<=28:=by
 unfold q0n;split
 ·rw[AX,Xz];omega
 ·rw[AX];omega
theorem qnb {a:Int}{t:LU}(h:P.dat D a=(0,t)):P.C.get a≠0:=λh0=>by
 have h1:=(qmj (P:=P) (D:=D) (k:=5) h0).1;have h2:P.Jt D a 5=0:=congrArg Prod.fst h;omega
theorem Ft.bytes (h:Ft b w d p U Q V D P root its X m g)(hb:1<b)(hfree:1<=P.C.free){v:LU}(hv:v.length<=128)(VV:OA)(q cV:Nat)(hV:Sl w VV q cV v)(hVU:∀g,q01 VV=some g->¬U g) :
  Calls prog 48 #[.pointer (some ⟨p,0,none⟩),.int .i64 5,.slice VV q cV] w λe w'=>∃(c:Nat) (P':Pl),e=.returned (.tuple #[.int .i64 (c:Int),.int .i64 0])/\Ft b w' d p U Q V D P' root its ((c:Int)::X) m g/\Yb D P P' its its X (λ_=>False) w w' U V/\P'.dat D (c:Int)=(0,v)/\1<=c/\c<=2047:=by
 obtain⟨M,O,T,u,k0,F,k2,kV⟩:=h.sys;obtain⟨J,I,K⟩:=h.ed.keep;obtain⟨c,Z⟩:∃c,P.C.pick=some c:=by
  cases h:P.C.pick with
  |some c=>exact⟨c,rfl⟩
  |none=>
   have:=Ct.Yh h;omega
 obtain⟨j1,j2,j3,j4,j5,j6,j7,j8,j9,a0,a1,H⟩:=qn5 K Z hv;obtain⟨d1,d2⟩:=qv0 (D:=D) Z hv K.c.1.2;have f:∀a:Int,P.C.get a≠0->(P.put 5 v).dat D a=P.dat D a:=λa h0=>d2 a (λe=>h0 (by rw[e];exact H)) h0
 have hS:=u.low;refine (qe9 u.pool (λk E=>(u.tight k E).2) (λh=>by have:=(u.tight _ h).1;omega) 5 VV q cV v hV (λhn ad e h=>hVU ad.block (by rw[e];rfl) (F _ h)) h.ed.tab).mono ?_;rintro e w' ⟨rfl,R,Y⟩;rw[j1,j2];have B:=u.step R Y;have K2:Keep D J I [] (Gj root++((c:Int)::X)) (P.put 5 v):=j3.perm λa _ _=>by
  simp only[A_,List.count_cons];omega
 have A:∀l a t,Qm (P.store D) l a t->Qm ((P.put 5 v).store D) l a t:=λl a t h=>q2e.1 (q11 j5 (q2e.2 h))
 refine⟨c,_,rfl,⟨⟨⟨M,O,T,B,k0,F⟩,λk E=>⟨(h.ed.low k E).1,by have:=(h.ed.low k E).2;have:=Y.size;omega⟩,u.tab hb h.ed.tab Y,⟨J,I,K2⟩,h.ed.Y2,by rw[j8.1];exact h.ed.gen⟩,⟨M,O,T,B,k0,F,k2,kV⟩,?_,h.Qg,h.fine,λa y=>?_⟩,⟨λk _=>⟨rfl,λ_ t ht=>?_⟩,λa y=>?_,j8,j7,Y.mono kV,Y.mono F⟩,d1,j9,by omega⟩
 ·rcases h.tree with h|⟨l,h1,h2,G⟩
  ·exact .inl h
  ·exact .inr ⟨l,h1,A _ _ _ h2,G⟩
 ·rcases List.mem_cons.1 y with rfl|y
  ·exact j4
  ·have:=q52 j5 (a:=a) (by rw[O9];exact h.data a y);rwa [O9] at this
 ·rcases ht with h1|h1|⟨h1,a,h2,G,h4,W⟩
  ·exact .inl h1
  ·exact .inr (.inl h1)
  ·exact .inr (.inr ⟨h1,a,h2,G,h4,(f _ (qnb W)).trans W⟩)
 ·exact f a (q53 K.Zl (h.data a y)).1
def Np (b:Nat)(w:WD)(d p:Nat)(U Q V:NP)(D:DM)(P:Pl)(its its':List Qb)(X:LI)(k:Kd)(m:Nat)(g:Int)(e:Ending)(w':WD):Prop:=
 ∃r P',e=.returned (.tuple #[.int .i64 r,.int .i64 0])/\Ft b w' d p U Q V D P' r its' X m g/\Yb D P P' its its' X (λq=>q=k) w w' U V/\∀a,P'.tell D a=(Jc,0)->P'.dat D a=P.dat D a
theorem qro (_h:Ft b w d p U Q V D P root its X' m g){k:Kd}(E:∀a∈X,P.tell D a=(Jc,0))(Y:Go.Proofs.YtloolbmdiimanaaGreatDoor.Qg its')(W:∀x∈its',Jb x)(I:∀q,q≠k->valOf its' q=valOf its q){e:Ending}(H:qew b w d p U Q V D P X its' m g e w')(u:17<=P.C.free):Np b w d p U Q V D P its its' X k m g e w':=by
 rcases H with⟨r,P',rfl,N,R,T,O,B⟩|⟨_,h1⟩
 ·have F:Ft b w' d p U Q V D P' r its' X m g:=⟨N.ed,R,N.tree,Y,W,λa f=>B a f (E a f)⟩;have hd:∀a,P'.tell D a=(Jc,0)->P'.dat D a=P.dat D a:=λa f=>by
   obtain⟨S0,C0,K⟩:=N.ed.keep;obtain⟨h1,h2⟩:=q53 K.Zl f;exact (O a h1 h2).2.2
  refine⟨r,P',rfl,F,⟨λq G=>⟨I q G,λy t Z=>?_⟩,λa f=>hd a (B a f (E a f)),N.like,N.n,T,N.turn⟩,hd⟩;rcases Z with h1|h1|⟨h1,a,h2,J,A,M⟩
  ·exact .inl h1
  ·exact .inr (.inl h1)
  ·refine .inr (.inr ⟨h1,a,h2,J,A,?_⟩);have hm:=q1s ((I q G).trans A);rw[hd _ (F.dat hm _ (qbe y (by omega)))];exact M
 ·omega
theorem Ft.put {k:Kd}{v:LU}(h:Ft b w d p U Q V D P root its (Pv ⟨k,v⟩++X) m g)(hb:1<b)(hx:Jb ⟨k,v⟩)(hfew:its.length<1000)(hX:X.length<=10000)(hfree:17<=P.C.free)(VV:OA)(q c:Nat)(hV:Sl w VV q c v)(hVU:v≠[]->∀g,q01 VV=some g->¬U g) :
  Calls prog 84 #[.pointer (some ⟨p,0,none⟩),.int .i64 root,.agg #[.int .i64 k.obj,.int .i64 k.kind,.int .i64 k.off],.slice VV q c] w (Np b w d p U Q V D P its (Yp k v false its) X k m g):=by
 have hd:Dat (P.tell D) ⟨k,v⟩:=λa f=>h.data a (List.mem_append_left _ (by unfold Pv;rw[f];exact AP ..))
 refine (h.ed.Qcz h.sys hb h.tree h.Qg h.fine hx hd hfew hX VV q c hV hVU).mono λe w' H=>?_
 exact qro h (λa f=>h.data a (AU _ f)) (q3j h.Qg) (λx u=>by
  rcases q95 h.Qg x u with rfl|h1
  ·exact hx
  ·exact h.fine x h1) (λq y=>qrk h.Qg v y) H hfree
theorem Ft.del (h:Ft b w d p U Q V D P root its X m g)(hb:1<b)(k:Kd)(hfew:its.length<1000)(hX:X.length<=10000)(hfree:17<=P.C.free)(hk:∃x∈its,x.k.same k=true) :
  Calls prog 109 #[.pointer (some ⟨p,0,none⟩),.int .i64 root,.agg #[.int .i64 k.obj,.int .i64 k.kind,.int .i64 k.off]] w (Np b w d p U Q V D P its (Ve k its) X k m g):=by
 refine (h.ed.Qct h.sys hb h.tree h.Qg h.fine k hfew hX hk).mono λe w' H=>?_
 exact qro h h.data (qb0 h.Qg) (λx f=>h.fine x (qqj f)) (λq u=>qrl h.Qg u) H hfree
end
structure Ck where
 c:Int
 l:LU
 a:Int
def Ck.row (k:Ck)(V:OA)(p q:Nat):LV:=[.int .i64 k.c,.slice V p q,.int .i64 k.a]
theorem qz6 (k:Ck)(V:OA)(p q:Nat):(k.row V p q).length=3/\∀u∈k.row V p q,u.oneCell'=true:=⟨rfl,λu e=>by
 simp[Ck.row] at e;rcases e with rfl|rfl|rfl<;>rfl⟩
theorem Qcq:Az prog 49 55 3 40 (.agg #[.int .i64 0,.slice none 0 0,.int .i64 0]):=⟨underlying49,by kernel_rfl,rfl,by omega⟩
abbrev Rj:=Kq 3 55 Ck.row Ck.l
def Om (x:Qb):Ck:=⟨x.k.off,Vq x.v,J4 x.v⟩
theorem qrp {l:LU}(h:Yl l=true):l.length<=25:=by
 have:=AK h;omega
theorem q85 {w:WD}{p:Nat}{R:Int->Nd × Int}{root ino fr up:Int}{its L:List Qb}(T:Told w p R root its)(ht:Tab w)(hL:within ⟨ino,3,fr⟩ ⟨ino,3,up⟩ its=L)(f:∀x∈L,Yl x.v=true) :
  Calls prog 18 #[.pointer (some ⟨p,0,none⟩),.int .i64 root,.int .i64 ino,.int .i64 fr,.int .i64 up] w λe w'=>∃A n c,e=.returned (.tuple #[.slice A n c,.int .i64 0])/\Rj w' w.1.size A n c (L.map Om)/\Below w.1.size w w':=by
 have a4:=T.len;have d6:L.length<=1000:=by
  rw[<-hL];exact AZ (List.length_filter_le _ _) a4
 have HT:=HI T;have HL:=HI hL;have a7:=HI f;clear T hL f;go_enter func18,ntmps18
 go_wp2_with fail
 refine (q37 ino fr w).mono ?_;rintro e wa ⟨rfl,ba⟩;go_wp2_with fail
 refine (q37 ino up wa).mono ?_;rintro e wb ⟨rfl,bb⟩;have Z:Below w.1.size w wb:=ba.trans (bb.mono ba.size);have tb:=ht.below Z ht.1;have a6:=(HT.out.below Z).Qar tb ⟨ino,3,fr⟩ ⟨ino,3,up⟩ 2147483647 L (by rw[HL.out];exact AN (by have:(2147483647:Int).toNat=2147483647:=rfl;omega));go_wp2_with fail
 refine a6.mono ?_;rintro e G ⟨A1,n1,c1,rfl,u,a2⟩;have d1:=Z.size;have J:Below w.1.size w G:=Z.trans (a2.mono d1);have hn:=u.Y6.len;obtain⟨d4,b6⟩:=u.Y6.bounds;unfold maxLen at b6;have b8:Rj G G.1.size none 0 0 []:=qt1 _ _;clear a6 tb ba bb Z a2;go_wp2_with fail
 go_loopw [14,36] (λsv iv wr=>∃(j:Nat) (A:OA) (c:Nat),j<=n1/\iv=.int .i64 (j:Int)/\sv=.slice A j c/\Rj wr G.1.size A j c ((L.take j).map Om)/\Below G.1.size G wr) (λ_ iv _=>n1-(intOf iv).toNat)
 case atStart=>exact⟨0,none,0,AW _,rfl,rfl,b8,AI _ _⟩
 case round=>
  obtain⟨j,A,c,hj,rfl,rfl,hC,hB⟩:=hrel;by_cases b5:j<n1
  ·have a3:j<L.length:=by omega
   have y:=u.below hB;obtain⟨gb,o,W,M,O,rfl,hg,x0,x1,x2,x3,hs⟩:=y.Y6.cell b5;have I:Qu L j∈L:=List.mem_of_getElem? (Et a3);have f:=a7.out _ I;have F:L.take (j+1)=L.take j++[Qu L j]:=by rw[List.take_add_one,Et a3];rfl
   obtain⟨x,hx⟩:∃x,Qu L j=x:=⟨_,rfl⟩;rw[hx] at x0 x1 x2 hs f F;have b7:M<=1000000:=by have:=hs.len;have:=qrp f;omega
   have e0:(0:Int)<=(j:Int):=by omega
   have e1:(j:Int)<(n1:Int):=by omega
   have a1:=HI hC;have a5:=HI f;clear y hx I hC f;have bx:Below wr.1.size wr (wr.alloc (.cells #[.int .i64 x.k.obj,.int .i64 x.k.kind,.int .i64 x.k.off,.slice W M O] 84)):=Ql;have K:=hs.below bx;have sx:wr.1.size<(wr.alloc (.cells #[.int .i64 x.k.obj,.int .i64 x.k.kind,.int .i64 x.k.off,.slice W M O] 84)).1.size:=by simp
   have Y:IB (wr.alloc (.cells #[.int .i64 x.k.obj,.int .i64 x.k.kind,.int .i64 x.k.off,.slice W M O] 84)) wr.1.size [.int .i64 x.k.obj,.int .i64 x.k.kind,.int .i64 x.k.off,.slice W M O]:=IB.new wr _ _;go_wp2_with fail
   generalize wr.alloc (.cells #[.int .i64 x.k.obj,.int .i64 x.k.kind,.int .i64 x.k.off,.slice W M O] 84)=wx at bx K Y sx ⊢;have d2:=Y.cell 3 rfl;go_wp2_with fail
   refine (qb8 W M O x.v wx K b7).mono ?_;rintro e H ⟨-,hy,b3⟩;obtain⟨V,B,E,rfl,hv,d0⟩:=hy a5.out;have K3:=Y.below b3 Y.lt;have z3:=K3.lt;have b4:Below H.1.size H (H.alloc (.cells #[.slice V B E,.int .i64 (J4 x.v)] 53)):=Ql;have K4:IB (H.alloc (.cells #[.slice V B E,.int .i64 (J4 x.v)] 53)) H.1.size [.slice V B E,.int .i64 (J4 x.v)]:=IB.new H _ _;clear x0 x1 x2 x3 hs K Y d2;have k2:=K3.cell 2 rfl;have z1:=hB.size;have zx:=bx.size;have d3:=b3.size;have a0:=a1.out.Qc;have B4:Below wr.1.size wr (H.alloc (.cells #[.slice V B E,.int .i64 (J4 x.v)] 53)):=bx.trans ((b3.mono zx).trans (b4.mono (AZ zx d3)));have l5:=(q1n (H.alloc (.cells #[.slice V B E,.int .i64 (J4 x.v)] 53)) 55 3 [.int .i64 x.k.off,.slice V B E,.int .i64 (J4 x.v)] #[.int .i64 x.k.off,.slice V B E,.int .i64 (J4 x.v)] rfl rfl).Um (by omega);rw[BH] at l5;have B5:Below wr.1.size wr ((H.alloc (.cells #[.slice V B E,.int .i64 (J4 x.v)] 53)).alloc (.cells #[.int .i64 x.k.off,.slice V B E,.int .i64 (J4 x.v)] 55)):=B4.trans (Ql.mono B4.size);have b1:=a1.out.below B5;have b9:=(hv.below b4).below (Ql (o:=.cells #[.int .i64 x.k.off,.slice V B E,.int .i64 (J4 x.v)] 55));have c9:Vq x.v≠[]->∀g,q01 V=some g->G.1.size<=g/\q01 A≠some g:=λ_ g hg=>by
    have:=d0 g hg;refine⟨by omega,λe=>?_⟩;have:=(a0 g e).2;omega
   go_wp2_with (first
    |(at_builtin;refine qfk Qcq (by omega) qz6 rfl (.tmp 48) (.tmp 54) rfl rfl b1 _ 1 ⟨x.k.off,Vq x.v,J4 x.v⟩ V B E rfl l5 b9 c9 (by omega) (by have:=B5.size;omega) ?_;intro A' c' w' a9 T' d5)
    |fail)
   have B6:Below G.1.size G w':=(hB.trans (B5.mono z1)).trans (T'.below (λk hk=>(a0 k hk).1) (by have:=B5.size;omega));exact⟨⟨j+1,A',c',by omega,by go_num,rfl,by rw[F,List.map_append];exact a9,B6⟩,by simp[intOf];omega⟩
  ·have b2:j=n1:=by omega
   subst b2;have F:L.take j=L:=AN (by omega);rw[F] at hC;have a8:=J.trans (hB.mono J.size);have b0:=hC.less J.size;go_wp2_with fail
   go_ret2;exact⟨_,_,_,rfl,b0,a8⟩
section
variable {b:Nat}{w:WD}{d p:Nat}{U Q V:NP}{D:DM}{P:Pl}{root:Int}{its:List Qb}{X:LI}{m:Nat}{g:Int}
theorem Ft.Qai (h:Ft b w d p U Q V D P root its X m g)(a:Int){t:LU}(ha:P.dat D a=(0,t)) :
  Calls prog 45 #[.pointer (some ⟨p,0,none⟩),.int .i64 a,.int .i64 5] w λe w'=>∃A n c,e=.returned (.tuple #[.slice A n c,.int .i64 0])/\Sl w' A n c t/\Below w.1.size w w'/\∀u,A=some u->w.1.size<=u.block:=by
 obtain⟨F,G,H,y,_⟩:=h.ed.sys;have f:=qmi y.Bc y.pool h.ed.tab a 5;unfold qae at f;have B:P.Jt D a 5=0:=congrArg Prod.fst ha;have E:P.Jz D a 5=t:=congrArg Prod.snd ha;rw[B,E] at f;exact f
theorem Ft.content (h:Ft b w d p U Q V D P root its X m g)(B:OA)(q c:Nat)(a:Int)(l t:LU)(hs:Sl w B q c l)(F:(a=0/\l=t)\/(a≠0/\P.dat D a=(0,t))) :
  Calls prog 27 #[.pointer (some ⟨p,0,none⟩),.agg #[.slice B q c,.int .i64 a]] w λe w'=>∃A n k,e=.returned (.tuple #[.slice A n k,.int .i64 0])/\Sl w' A n k t/\Below w.1.size w w'/\∀g,q01 A=some g->(a=0/\q01 B=some g)\/w.1.size<=g:=by
 have E:IB (w.alloc (.cells #[.slice B q c,.int .i64 a] 53)) w.1.size [.slice B q c,.int .i64 a]:=IB.new w _ _;have f:Below w.1.size w (w.alloc (.cells #[.slice B q c,.int .i64 a] 53)):=Ql;have O:(w.alloc (.cells #[.slice B q c,.int .i64 a] 53)).1.size=w.1.size+1:=by simp
 obtain⟨Y,I⟩:∃u,w.alloc (.cells #[.slice B q c,.int .i64 a] 53)=u:=⟨_,rfl⟩;rw[I] at E f O;have c0:=E.cell 0 rfl;have c1:=E.cell 1 rfl;rcases F with⟨rfl,rfl⟩|⟨h0,F⟩
 ·have G:=hs.below f;go_enter func27,ntmps27
  go_wp2_with fail
  go_ret2;exact⟨_,_,_,rfl,G,f,λg y=>.inl ⟨by first|rfl|trivial,y⟩⟩
 ·have J:=HI ((h.below f).Qai a F);have R:(a==0)=false:=by simp;omega
  have T:decide (a=0)=false:=AH h0;go_enter func27,ntmps27
  go_wp2_with fail
  refine J.out.mono ?_;rintro e Z ⟨A,n,k,rfl,H,K,M⟩;clear J;go_wp2_with fail
  go_ret2;exact⟨_,_,_,rfl,H,f.trans (K.mono f.size),λg y=>.inr (by
   cases A with
   |none=>cases y
   |some ad=>
    have:=M ad rfl;have W:ad.block=g:=OI y;omega)⟩
theorem Ft.remove (h:Ft b w d p U Q V D P root its X m g)(hb:1<b)(k:Kd)(hfew:its.length<1000)(hX:X.length<=10000)(hfree:17<=P.C.free) :
  Calls prog 82 #[.pointer (some ⟨p,0,none⟩),.int .i64 root,.agg #[.int .i64 k.obj,.int .i64 k.kind,.int .i64 k.off]] w (Np b w d p U Q V D P its (Ve k its) X k m g):=by
 have A:IB (w.alloc (.cells #[.int .i64 k.obj,.int .i64 k.kind,.int .i64 k.off] 81)) w.1.size [.int .i64 k.obj,.int .i64 k.kind,.int .i64 k.off]:=IB.new w _ _;have f:Below w.1.size w (w.alloc (.cells #[.int .i64 k.obj,.int .i64 k.kind,.int .i64 k.off] 81)):=Ql;obtain⟨J,G⟩:∃u,w.alloc (.cells #[.int .i64 k.obj,.int .i64 k.kind,.int .i64 k.off] 81)=u:=⟨_,rfl⟩;rw[G] at A f;have c0:=A.cell 0 rfl;have c1:=A.cell 1 rfl;have c2:=A.cell 2 rfl;have h1:=h.below f;by_cases E:∃x∈its,x.k.same k=true
 ·have y:=HI (h1.del hb k hfew hX hfree E);go_enter func82,ntmps82
  go_wp2_with fail
  refine y.out.mono ?_;rintro e I ⟨r,P',rfl,F,T,hd⟩;clear y;go_wp2_with fail
  go_ret2;exact⟨r,P',rfl,F,T.ahead f,hd⟩
 ·have y:=HI (h1.ed.Qb2 hb h1.tree h1.Qg h1.fine k hfew hX E);go_enter func82,ntmps82
  go_wp2_with fail
  refine y.out.mono ?_;rintro e I ⟨rfl,H⟩;clear y;go_wp2_with fail
  go_ret2;have B:=f.trans (H.mono f.size);refine⟨root,P,rfl,?_,?_,λ_ _=>rfl⟩
  ·rw[qkv E];exact h.below B
  ·rw[qkv E];exact Yb.refl D P its X _ U V B
def Rw (P:Pl)(D:DM)(l:LU)(a:Int)(t:LU)(nm:LI):Prop:=
 (l=[]/\a=0/\t=[]/\nm=[])\/(1<=l.length/\l.length<=24/\a=0/\t=l/\nm=[])\/(∃c:Nat,1<=c/\c<=2047/\l=[]/\a=(c:Int)/\24<t.length/\P.dat D a=(0,t)/\nm=[(c:Int)])
def qiu (b:Nat)(w:WD)(d p:Nat)(U Q V:NP)(D:DM)(P:Pl)(its:List Qb)(X:LI)(k:Kd)(t:LU)(m:Nat)(g:Int)(e:Ending)(w':WD):Prop:=
 ∃r P' its',e=.returned (.tuple #[.int .i64 r,.int .i64 0])/\Ft b w' d p U Q V D P' r its' X m g/\Yb D P P' its its' X (λq=>q=k) w w' U V/\Ij P' D (valOf its' k) t/\its'.length<=its.length+1
theorem Ft.set {nm:LI}{l t:LU}{a:Int}(h:Ft b w d p U Q V D P root its (nm++X) m g)(hb:1<b)(ino n:Int)(hi:0<=ino/\ino<=2147483647)(hn:0<=n/\n<=2147483647)(B:OA)(q c:Nat)(hs:Sl w B q c l)(Y:Rw P D l a t nm)(hfew:its.length<1000)(hX:X.length<=9000)(hfree:17<=P.C.free) :
  Calls prog 47 #[.pointer (some ⟨p,0,none⟩),.int .i64 root,.int .i64 ino,.int .i64 n,.agg #[.slice B q c,.int .i64 a]] w (qiu b w d p U Q V D P its X ⟨ino,3,n⟩ t m g):=by
 have hl:=hs.len;have E:IB (w.alloc (.cells #[.slice B q c,.int .i64 a] 53)) w.1.size [.slice B q c,.int .i64 a]:=IB.new w _ _;have R:Below w.1.size w (w.alloc (.cells #[.slice B q c,.int .i64 a] 53)):=Ql;obtain⟨w1,a8⟩:∃u,w.alloc (.cells #[.slice B q c,.int .i64 a] 53)=u:=⟨_,rfl⟩;rw[a8] at E R;have c0:=E.cell 0 rfl;have c1:=E.cell 1 rfl;rcases Y with⟨rfl,rfl,rfl,rfl⟩|Y
 ·obtain rfl:q=0:=hl.symm;have hR:=HI (λu (I:Below w.1.size w u)=>(h.below I).remove hb ⟨ino,3,n⟩ hfew (by show X.length<=10000;omega) hfree);go_enter func47,ntmps47
  go_wp2_with fail
  refine (q37 ino n w1).mono ?_;rintro e f ⟨rfl,W⟩;have O:=E.below W E.lt;have M:=R.trans (W.mono R.size);have A:Below w.1.size w (f.alloc (.cells #[.int .i64 ino,.int .i64 3,.int .i64 n] 81)):=M.trans (Ql.mono M.size);have K:=O.below (Ql (o:=.cells #[.int .i64 ino,.int .i64 3,.int .i64 n] 81)) O.lt;have d0:=K.cell 0 rfl;have d1:=K.cell 1 rfl;go_wp2_with fail
  refine (hR.out _ A).mono ?_;rintro e w4 ⟨r,P',rfl,F,T,hd⟩;clear hR;go_wp2_with fail
  go_ret2;exact⟨r,P',_,rfl,F,T.ahead A,.inl ⟨rfl,qna _ _⟩,by have:=qqk ⟨ino,3,n⟩ its;omega⟩
 ·have hM:Y4 l a=true/\Pv ⟨⟨ino,3,n⟩,q0n l a⟩=nm/\l.length<=24/\(a==0&&(l.length==0))=false:=by
   rcases Y with⟨h1,h2,rfl,rfl,rfl⟩|⟨c,h1,h2,rfl,rfl,h3,h4,rfl⟩
   ·exact⟨AL (.inr ⟨rfl,h1,h2⟩),qv2 (qrm (λe=>by rw[e] at h1;simp at h1)),h2,by rw[beq_eq_false_iff_ne.2 (Nat.ne_of_gt h1),Bool.and_false]⟩
   ·refine⟨AL (.inl ⟨rfl,by omega,by omega⟩),?_,by simp,by rw[show ((c:Int)==0)=false from beq_eq_false_iff_ne.2 (by omega),Bool.false_and]⟩;unfold Pv;rw[qbe rfl (by omega)];rfl
  obtain⟨y,a6,a3,H⟩:=hM;have hx:Jb ⟨⟨ino,3,n⟩,q0n l a⟩:=⟨AL ⟨hi,by show (0:Int)<=3/\(3:Int)<=255;omega,hn⟩,qrn l a a3⟩;rw[<-a6] at h;have hP:=HI (λu (I:Below w.1.size w u)=>(h.below I).put hb hx hfew (by show X.length<=10000;omega) hfree);have a5:=λk hk=>(h.ed.low k hk).2
  have a4:∀v,(Yp ⟨ino,3,n⟩ v false its).length<=its.length+1:=λv=>qe3 h.Qg
  have HA:=HI Y;have Hm:=HI y;have G:a≠0\/(a=0/\q≠0):=by
   by_cases h0:a=0
   ·refine .inr ⟨h0,λh1=>?_⟩;rw[h0,hl,h1] at H
    cases H
   ·exact .inl h0
  have hq:q<=1000000:=by omega
  clear Y y H hx a6;rcases G with h0|⟨rfl,h0⟩
  case' inl=>
   have a0:(a==0)=false:=by simp;omega
   have a1:decide (a=0)=false:=AH h0;have Z:=HI λu (I:Below w.1.size w u)=>q5x B q c l a u (hs.below I) hq
  case' inr=>
   have a0:((q:Int)==0)=false:=by simp;omega
   have a1:decide ((q:Int)=0)=false:=AH (by omega);have Z:=HI λu (I:Below w.1.size w u)=>q5x B q c l 0 u (hs.below I) hq
  all_goals (
   go_enter func47,ntmps47
   go_wp2_with fail
   refine (q37 ino n w1).mono ?_;rintro e f ⟨rfl,W⟩;have O:=E.below W E.lt;have M:=R.trans (W.mono R.size);have b3:Below f.1.size f (f.alloc (.cells #[.int .i64 ino,.int .i64 3,.int .i64 n] 81)):=Ql;have K3:IB (f.alloc (.cells #[.int .i64 ino,.int .i64 3,.int .i64 n] 81)) f.1.size [.int .i64 ino,.int .i64 3,.int .i64 n]:=IB.new f _ _;obtain⟨w3,J⟩:∃u,f.alloc (.cells #[.int .i64 ino,.int .i64 3,.int .i64 n] 81)=u:=⟨_,rfl⟩;have A:Below w.1.size w w3:=by rw[<-J];exact M.trans (b3.mono M.size)
   have K:=O.below b3 O.lt;rw[J] at K;have d0:=K.cell 0 rfl;have d1:=K.cell 1 rfl;have hE:=HI (Z.out w3 A);rw[J] at K3;go_wp2_with fail
   refine hE.out.mono ?_;rintro e w4 ⟨-,hy,b4⟩;obtain⟨V4,n4,c4,rfl,hv,a7⟩:=hy Hm.out;clear hE;have K4:=K3.below b4 K3.lt;have k0:=K4.cell 0 rfl;have k1:=K4.cell 1 rfl;have k2:=K4.cell 2 rfl;have B4:=A.trans (b4.mono A.size);have a2:=HI (hP.out _ B4 V4 n4 c4 hv (λ_ g hg hU=>by have:=a7 g hg;have:=a5 g hU;have:=A.size;omega));go_wp2_with fail
   refine a2.out.mono ?_;rintro e w5 ⟨r,P',rfl,F,T,hd⟩;clear a2 hP;go_wp2_with fail
   go_ret2;refine⟨r,P',_,rfl,F,T.ahead B4,?_,a4 _⟩;rw[qdd h.Qg];rcases HA.out with⟨h1,h2,h3,rfl,-⟩|⟨c',h1,h2,rfl,h3,h4,h5,-⟩
   ·first
    |exact absurd h3 h0
    |exact .inr (.inl ⟨h1,h2,rfl⟩)
   ·first
    |(subst h3
      refine .inr (.inr ⟨h4,c',h1,h2,rfl,?_⟩);rw[hd _ (F.dat (q1s (qdd h.Qg ⟨ino,3,n⟩ (q0n [] (c':Int)))) _ (qbe (k:=⟨ino,3,n⟩) rfl (by omega)))];exact h5)
    |(exfalso;omega))
end
