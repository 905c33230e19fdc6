/- The code's pool: Ref, Fresh; the superblock is set -/
import Derived.Test.YthkfkhejjmhomaaGreatDoorDz25
import Derived.Test.YthkfkhejjmhomaaGreatDoorDz26
import Derived.Shelf.SlIterI.Nil
import Derived.Shelf.SlIterI.Sorted
import Derived.Shelf.SortM.Plain
import Derived.Shelf.SortM.SortNone
import Derived.Shelf.SlMaps.Clone
namespace Go.Proofs.YthkfkhejjmhomaaGreatDoor
open Go Go.RowKit Go.Proofs
set_option maxHeartbeats 8000000
set_option maxRecDepth 100000
section
theorem Zah (C:Ct)(a:Int)(c:Nat)(g:C.ok):(C.ref a).get (c:Int)=0↔C.get (c:Int)=0:=by
 by_cases h:C.Xc a=0
 ·have f:C.ref a=C.put a.toNat (C.get a+1):=by unfold Ct.ref;rw[if_pos h]
  have h0:C.get a≠0:=λe=>by unfold Ct.Xc at h;rw[if_pos e] at h;omega
  have E:0<=a/\a<(C.n:Int):=Classical.byContradiction λh2=>h0 (by unfold Ct.get;rw[if_neg h2])
  have F:=C.Q5 g a;obtain⟨V,y⟩:∃V,C.get a+1=V:=⟨_,rfl⟩;rw[f,y];by_cases z:c<C.n
  ·have h1:(C.put a.toNat V).get (c:Int)=nm (C.put a.toNat V).now c:=by unfold Ct.get;rw[C.Qc,if_pos (by omega),Int.toNat_natCast]
   have h2:C.get (c:Int)=nm C.now c:=by unfold Ct.get;rw[if_pos (by omega),Int.toNat_natCast]
   rw[h1,Vx _ _ _ _ z];by_cases e:c=a.toNat
   ·have u:(c:Int)=a:=by omega
    rw[if_pos e,u];constructor
    ·intro q;omega
    ·intro q;exact absurd q h0
   ·rw[if_neg e,h2]
  ·have h1:(C.put a.toNat V).get (c:Int)=0:=by unfold Ct.get;rw[C.Qc,if_neg (by omega)]
   have h2:C.get (c:Int)=0:=by unfold Ct.get;rw[if_neg (by omega)]
   rw[h1,h2]
 ·have f:C.ref a=C:=by unfold Ct.ref;rw[if_neg h]
  rw[f]
theorem Ze2 {P:Pl}(h:P.ok)(a:Int):Pl.ok ⟨P.S,P.C.ref a,P.L⟩:=
 ⟨Ct.Zc7 h.c a,Ct.Zc8 h.res a,h.may,by show P.S.Qa=((P.C.ref a).n:Int);rw[Ct.Zdw];exact h.sec,h.gen,h.fine⟩
theorem Qz9 {w:World}{p d:Nat}{S T:Nat->Prop}{P:Pl}(H:Pool w p d S T P)(a:Int) :
  Calls Tryz.prog 74 #[.pointer (some ⟨p,0,none⟩),.int .i64 a] w λe w'=>e=.returned (.int .i64 (P.C.Xc a))/\Pool w' p d S T ⟨P.S,P.C.ref a,P.L⟩/\Turn S w w':=by
 have f:=H.ok;obtain⟨m,y,l,clock,v,I,L⟩:=H;have g:=Qx3 L.ct a;have J:=L.Yw;have q:=Lib.hid (Ze2 f a);have Hg:=Lib.hid (λc=>Zah P.C a c f.c);obtain⟨E,F⟩:∃E,P.C.Xc a=E:=⟨_,rfl⟩;rw[F] at g ⊢;have u:=Lib.hid g;clear g F f;go_enter Tryz.func74,Tryz.ntmps74
 go_wp2_with fail
 refine u.out.mono ?_;rintro e K ⟨rfl,G,z⟩;have R:=L.Ze3 z G (Ct.Zdw _ _) (λc=>Hg.out c) q.out;go_wp2;go_ret;exact⟨rfl,⟨m,y,l,clock,v,I,R⟩,z.mono L.Zk.2.2⟩
theorem Qeq {w:World}{p d:Nat}{S T:Nat->Prop}{P:Pl}(H:Pool w p d S T P)(a:Int)(r:Bool)(q:P.C.fresh a=r) :
  Calls Tryz.prog 236 #[.pointer (some ⟨p,0,none⟩),.int .i64 a] w λe w'=>e=.returned (.bool r)/\w=w':=by
 obtain⟨m,g,l,clock,v,u,L⟩:=H;have f:=Qq7 L.ct a r q;go_enter Tryz.func236,Tryz.ntmps236
 go_wp2_with fail
 refine f.mono ?_;rintro e y ⟨rfl,rfl⟩;go_wp2;go_ret;exact⟨rfl,rfl⟩
attribute [local go_sem ↓] Yz
end
section
open Go.ChangeMaps (setBlock)
theorem q23 {N:Nd}(hm:N.may=true){a:Nat}{g:Int}(E:a<=2047)(q:Xj g):Qo N (a:Int) g=0/\Jw N (a:Int) g=Zl (N.head (a:Int) g) N.body/\(N.head (a:Int) g).ok=true:=by
 have e:Qo N (a:Int) g=0:=Classical.byContradiction λh=>by
  have h2:=(Ep hm h).2;have y:=q.1;have z:=q.2;omega
 refine⟨e,?_⟩;unfold Qo at e;rw[if_pos hm] at e;obtain⟨f,_,u⟩:=C9 _ _ e;refine⟨?_,f⟩;unfold Jw;rw[if_pos hm,u]
theorem Gu {N:Nd}(hm:N.may=true):(Bk.node N).good:=⟨λ_ _ e f=>(q23 hm e f).2.2,Af hm,λ_ _ e f=>(q23 hm e f).2.1⟩
def Pl.Yd (P:Pl)(N:Nd):Int:=if N.may=true then P.C.Js else 0
def Pl.Xo (P:Pl)(N:Nd):Int:=if N.may=true then P.C.Jr else 1
def Pl.Xb (P:Pl)(N:Nd):Pl:=if N.may=true then P.lay (.node N) else P
end
section
open Go.ChangeMaps (setBlock)
theorem Xr {C:Ct}{a:Int}(h:C.get a≠0):∃n:Nat,a=(n:Int)/\n<C.n:=by
 have e:0<=a/\a<(C.n:Int):=Classical.byContradiction λh2=>h (by unfold Ct.get;rw[if_neg h2])
 exact⟨a.toNat,by omega,by omega⟩
end
structure Zb (b:Nat)(w:World)(d p:Nat)(S0 S T:Nat->Prop)(D:DM)(P:Pl):Prop where
 Vh:Drv w d S0 D
 pool:Pool w p d S T P
 sub:∀k,S0 k->T k
 apart:∀k,S0 k->¬S k
 tight:∀k,T k->b<=k/\k<w.heap.size
def Sys (b:Nat)(w:World)(d p:Nat)(T:Nat->Prop)(D:DM)(P:Pl):Prop:=∃S0 S,Zb b w d p S0 S T D P
def grow (T:Nat->Prop)(w w':World):Nat->Prop:=λk=>(T k\/w.1.size<=k)/\k<w'.1.size
section
variable {b:Nat}{w w':World}{d p:Nat}{T:Nat->Prop}{D:DM}{P:Pl}
theorem Zb.Va {S0 S:Nat->Prop}(H:Zb b w d p S0 S T D P):∀k,S k->T k:=by
 obtain⟨m,e,l,clock,v,f,L⟩:=H.pool;exact L.sub
theorem Zb.base {S0 S:Nat->Prop}(H:Zb b w d p S0 S T D P):b<=w.1.size:=by
 obtain⟨m,e,l,clock,v,f,L⟩:=H.pool;have:=(H.tight _ (L.sub _ L.Zk.1)).1;have:=L.Yw;omega
theorem Sys.base (H:Sys b w d p T D P):b<=w.1.size:=by
 obtain⟨S0,S,H⟩:=H;exact H.base
theorem Ze8 {g w:World}{d p q:Nat}{S0:Nat->Prop}{D:DM}{P:Pl}(H:V8 g w p d q S0 D P)(f:∀k,S0 k->b<=k)(u:b<=g.1.size):Sys b w d p (λk=>b<=k/\k<w.1.size) D P:=by
 refine⟨λk=>(S0 k\/g.1.size<=k)/\k<q,λk=>q<=k/\k<w.1.size,H.Vh,?_,λk e=>?_,λk e h=>?_,λk e=>e⟩
 ·have h:=H.pool (λk=>b<=k) (λk e=>by have:=H.ge.1;omega);exact h.mono (λk e h=>⟨h,e⟩) (λk e h=>h.1) λk e=>⟨by have:=H.ge.1;omega,e.2⟩
 ·have:=H.ge.2;exact⟨e.1.elim (f k) λh=>by omega,by omega⟩
 ·omega
end
theorem Qfk {P:Pl}{a:Nat}{b:Bk}(h:P.live a=some b):P.C.get (a:Int)≠0/\P.L a=some b:=by
 unfold Pl.live at h;split at h
 ·cases h
 ·rename_i h0;exact⟨h0,h⟩
theorem Zem {n:Nat}(h:n<=2048):(Qw n).length<=30:=by
 rw[F6];unfold Qi;omega
def Qtb (M:Nd)(E:Int)(w:World)(e:Ending)(w':World):Prop:=
 ∃q g c1 u f y,e=.returned (.tuple #[.agg #[.int .i64 M.lvl,.slice q g c1,.slice u f y],.int .i64 E])/\g<=20/\f<=20/\Je w' q g c1 M.items/\Q7 w' u f y M.kids/\Below w.1.size w w'
def Fe (M:Nd)(E:Int)(w:World)(e:Ending)(w':World):Prop:=
 ∃q g c1 u f y,e=.returned (.tuple #[.agg #[.int .i64 M.lvl,.slice q g c1,.slice u f y],.int .i64 E])/\g<=20/\f<=20/\Zn w' w.1.size q g c1 M.items/\Qr w' w.1.size 148 4 u f y (M.kids.map Qk.vs)/\Below w.1.size w w'
theorem Fe.ans {M:Nd}{E:Int}{w:World}{e:Ending}{w':World}(h:Fe M E w e w'):Qtb M E w e w':=by
 obtain⟨f,H,c1,g,G,q,h1,h2,u,y,z,F⟩:=h;exact⟨f,H,c1,g,G,q,h1,h2,u,y.Qaf,z.Hr (by omega),F⟩
def Qu:Nd:=⟨0,[],[]⟩
def Yt (x:List UInt8)(a o:Int):Int:=if (Xh x a).isSome=true then 0 else o
def Yu (x:List UInt8)(a:Int):Nd:=(Xh x a).getD Qu
theorem Qnx {w:World}{f:Addr}{g:Array Value}{t:TypeId}{v:Value}(h:w.1[f.block]?=some (.cells g t (0,0)))(e:w.cell? f=some v):g[f.off]?=some v:=by
 unfold World.cell? at e;rw[h] at e;dsimp only at e;split at e
 ·cases e
 ·exact e
section
variable {w w':World}{b n c m d:Nat}{l:Int}{A B:Option Addr}
end
theorem Qlw {w:World}{p:Nat}{a E o:Int}(I:E≠0)(f:∀u,Below w.1.size w u->Calls Tryz.prog 83 #[.pointer (some ⟨p,0,none⟩),.int .i64 a] u λe w'=>∃A n c,e=.returned (.tuple #[.slice A n c,.int .i64 o,.int .i64 E])/\Below u.1.size u w') :
  Calls Tryz.prog 37 #[.pointer (some ⟨p,0,none⟩),.int .i64 a] w λe w'=>Fe Qu E w e w':=by
 have O:(E==0)=false:=by simpa using I
 have z:NB (w.alloc (.cells #[.int .i64 0,.slice none 0 0,.slice none 0 0] 77)) w.1.size 0 none 0 0 none 0 0:=NB.new w _ _ _ _ _ _ _ _;have q:Below w.1.size w (w.alloc (.cells #[.int .i64 0,.slice none 0 0,.slice none 0 0] 77)):=Ib;have K:(w.alloc (.cells #[.int .i64 0,.slice none 0 0,.slice none 0 0] 77)).1.size=w.1.size+1:=by simp
 have g:=Lib.hid f;clear f;go_enter Tryz.func37,Tryz.ntmps37
 go_wp2_with fail
 generalize w.alloc (.cells #[.int .i64 0,.slice none 0 0,.slice none 0 0] 77)=J at q z K ⊢;refine (g.out J q).mono ?_;rintro e Q ⟨A,n,c,rfl,y⟩;have F:=z.below y (by omega);go_wp2_with (first
  |(refine Ir rfl _ _ rfl w.1.size rfl 0 none 0 0 none 0 0 rfl F ?_;intro R G H)
  |fail)
 refine bodyPost_ret (Md Tryz.results37 rfl (Nq G)) rfl ?_;have U:=y.size;exact⟨none,0,0,none,0,0,rfl,by omega,by omega,Ob _ _,Lp _ _ _ _,(q.trans (y.mono (by omega))).trans (H.below (λk M=>by omega) (by omega))⟩
theorem Qjl {w:World}{p:Nat}{a o:Int}{x:List UInt8}(ht:Tab w)(G:∀u,Below w.1.size w u->Calls Tryz.prog 83 #[.pointer (some ⟨p,0,none⟩),.int .i64 a] u λe w'=>∃A n c,e=.returned (.tuple #[.slice A n c,.int .i64 o,.int .i64 0])/\Sl w' A n c x/\Below u.1.size u w') :
  Calls Tryz.prog 37 #[.pointer (some ⟨p,0,none⟩),.int .i64 a] w λe w'=>Fe (Yu x a) (Yt x a o) w e w':=by
 have R1:NB (w.alloc (.cells #[.int .i64 0,.slice none 0 0,.slice none 0 0] 77)) w.1.size 0 none 0 0 none 0 0:=NB.new w _ _ _ _ _ _ _ _;have K:Below w.1.size w (w.alloc (.cells #[.int .i64 0,.slice none 0 0,.slice none 0 0] 77)):=Ib;have z1:(w.alloc (.cells #[.int .i64 0,.slice none 0 0,.slice none 0 0] 77)).1.size=w.1.size+1:=by simp
 have Y:=ht.below K ht.1;have F:=Lib.hid G;clear G
 cases H:Xh x a with
 |none=>
  have e1:Yu x a=Qu:=by unfold Yu;rw[H];rfl
  have e2:Yt x a o=o:=by unfold Yt;rw[H];rfl
  rw[e1,e2];have f:=λ(A:Option Addr) (n c:Nat) (g:World) (O:Sl g A n c x) (Q:Tab g)=>Qk1 A n c x a g O Q
  unfold Qan at f;rw[H] at f;have J:=Lib.hid f;clear f H e1 e2;go_enter Tryz.func37,Tryz.ntmps37
  go_wp2_with fail
  generalize w.alloc (.cells #[.int .i64 0,.slice none 0 0,.slice none 0 0] 77)=w1 at K R1 z1 Y ⊢;refine (F.out w1 K).mono ?_;rintro e g ⟨A,n,c,rfl,O,y⟩;have R2:=R1.below y (by omega);have Q:=Y.below y Y.1;have z2:=y.size;go_wp2_with fail
  refine (J.out A n c g O Q).mono ?_;rintro e q ⟨R,X,c1,U,W,V,rfl,a2,a1,hI,hK,M⟩;have z3:=M.size;have R3:=R2.below M (by omega);have I:=K.trans ((y.trans (M.mono z2)).mono (by omega));go_wp2_with (first
   |(refine Ir rfl (.tmp 4) (.tmp 29) rfl w.1.size rfl 0 none 0 0 none 0 0 rfl (R3.below (E:=q.1.size) (Ib) (by omega)) ?_;intro w5 R5 Z)
   |fail)
  refine bodyPost_ret (Md Tryz.results37 rfl (Nq R5)) rfl ?_;have z:Below q.1.size q (q.alloc (.cells #[.int .i64 0,.slice R X c1,.slice U W V] 77)):=Ib;exact⟨none,0,0,none,0,0,rfl,by omega,by omega,Ob _ _,Lp _ _ _ _,(I.trans (z.mono I.size)).trans (Z.below (λk hk=>by omega) (by have:=I.size;have:=z.size;omega))⟩
 |some N=>
  have e1:Yu x a=N:=by unfold Yu;rw[H];rfl
  have e2:Yt x a o=0:=by unfold Yt;rw[H];rfl
  rw[e1,e2];have f:=λ(A:Option Addr) (n c:Nat) (g:World) (O:Sl g A n c x) (Q:Tab g)=>Qk1 A n c x a g O Q
  unfold Qan at f;rw[H] at f;have J:=Lib.hid f;clear f H e1 e2;go_enter Tryz.func37,Tryz.ntmps37
  go_wp2_with fail
  generalize w.alloc (.cells #[.int .i64 0,.slice none 0 0,.slice none 0 0] 77)=w1 at K R1 z1 Y ⊢;refine (F.out w1 K).mono ?_;rintro e g ⟨A,n,c,rfl,O,y⟩;have R2:=R1.below y (by omega);have Q:=Y.below y Y.1;have z2:=y.size;go_wp2_with fail
  refine (J.out A n c g O Q).mono ?_;rintro e q ⟨R,X,c1,U,W,V,rfl,a2,a1,hI,hK,M⟩;have hI:Zn q g.1.size R X c1 N.items:=hI;have hK:Qr q g.1.size 148 4 U W V (N.kids.map Qk.vs):=hK;have hl:((some N:Option Nd).getD ⟨0,[],[]⟩).lvl=N.lvl:=rfl;simp only[hl];have z3:=M.size;have R3:=R2.below M (by omega);have I:=K.trans ((y.trans (M.mono z2)).mono (by omega));have z:Below q.1.size q (q.alloc (.cells #[.int .i64 N.lvl,.slice R X c1,.slice U W V] 77)):=Ib;go_wp2_with (first
   |(refine Ir rfl (.tmp 4) (.tmp 31) rfl w.1.size rfl N.lvl R X c1 U W V rfl (R3.below z (by omega)) ?_;intro w5 R5 Z)
   |fail)
  refine bodyPost_ret (Md Tryz.results37 rfl (Nq R5)) rfl ?_;exact⟨R,X,c1,U,W,V,rfl,a2,a1,((hI.below z).low Z (λk hk=>by have h1:k=w.1.size:=hk;omega)).less (by omega),((hK.below z).turned Z (λk hk e=>by have h1:=((hK.below z).Zx k hk).1;have h2:k=w.1.size:=e;omega)).less (by omega),(I.trans (z.mono I.size)).trans (Z.below (λk hk=>by omega) (by have:=I.size;have:=z.size;omega))⟩
def Pl.Qj (P:Pl)(D:DM)(a:Int):Int:=if P.C.get a=0 then 1 else match P.live a.toNat with
 |some (.node _)=>0
 |some (.bytes _ _)=>1
 |none=>if D.Xt a=0 then Yt (D.Yf a) a 5 else D.Xt a
def Pl.Qb (P:Pl)(D:DM)(a:Int):Nd:=if P.C.get a=0 then Qu else match P.live a.toNat with
 |some (.node N)=>N
 |some (.bytes _ _)=>Qu
 |none=>if D.Xt a=0 then Yu (D.Yf a) a else Qu
theorem Qa7 {N:Nd}(h:(Bk.node N).good):N.may=true:=by
 cases hm:N.may with
 |true=>rfl
 |false=>
  have h1:=h.len (a:=0) (g:=0) (by omega) Rx;have h2:(Bk.node N).out 0 0=[]:=by show Jw N _ _=[];unfold Jw;rw[if_neg (by rw[hm];decide)]
  rw[h2] at h1
  cases h1
theorem Qzy {N:Nd}(h:(Bk.node N).good){a:Nat}(f:a<=2047)(o:Int):Yu ((Bk.node N).out a 0) (a:Int)=N/\Yt ((Bk.node N).out a 0) (a:Int) o=0:=by
 have hm:=Qa7 h;have e:Xh ((Bk.node N).out a 0) (a:Int)=some N:=by
  show Xh (Jw N (a:Int) 0) (a:Int)=some N;rw[Qib hm (q23 hm f Rx).1,if_pos rfl]
 unfold Yu Yt;rw[e];exact⟨rfl,rfl⟩
theorem Qwh {k:Int}{l:List UInt8}(h:(Bk.bytes k l).good)(q:k=5\/k=6){a:Nat}(g:a<=2047)(o:Int):Yu ((Bk.bytes k l).out a 0) (a:Int)=Qu/\Yt ((Bk.bytes k l).out a 0) (a:Int) o=o:=by
 obtain⟨h1,h2,f⟩:=h.opens g Rx;have e:Xh ((Bk.bytes k l).out a 0) (a:Int)=none:=by
  unfold Xh;rw[if_pos f,h1];unfold Uc;split
  ·rw[if_neg];rintro⟨e,_⟩;have e:k=if ((Bk.bytes k l).hd a 0).level=0 then (3:Int) else 4:=e
   split at e<;>omega
  ·rfl
 unfold Yu Yt;rw[e];exact⟨rfl,rfl⟩
def Bk.kindOk (b:Bk):Prop:=match b with
 |.node _=>True
 |.bytes k l=>∃m,Kr k=some m/\l.length<=m
theorem Qvp {k:Int}{l:List UInt8}(P:Pl)(e:∀a b,P.L a=some b->b.kindOk){a:Nat}(h:P.live a=some (.bytes k l)):k=5\/k=6:=by
 obtain⟨m,hm,_⟩:=e a _ (Qfk h).2;exact (Qr3 hm).1
theorem Qgp {w:World}{p d:Nat}{S0 S T:Nat->Prop}{D:DM}{P:Pl}(G:Drv w d S0 D)(H:Pool w p d S T P)(Q:∀a b,P.L a=some b->b.kindOk)(J:Tab w)(a:Int) :
  Calls Tryz.prog 37 #[.pointer (some ⟨p,0,none⟩),.int .i64 a] w λe w'=>Fe (P.Qb D a) (P.Qj D a) w e w':=by
 by_cases h0:P.C.get a=0
 ·have q:P.Qj D a=1:=if_pos h0;have y:P.Qb D a=Qu:=if_pos h0;rw[q,y];exact Qlw (o:=0) (by omega) λu g=>(Qz6 (H.below g) a h0).mono λe w' h=>⟨_,_,_,h.1,by rw[<-h.2];exact Below.refl _ _⟩
 ·obtain⟨n,rfl,hn⟩:=Xr h0;have z:n<=2047:=by have:=H.ok.c.1;omega
  have M:P.Qj D (n:Int)=match P.live n with
    |some (.node _)=>0
    |some (.bytes _ _)=>1
    |none=>if D.Xt (n:Int)=0 then Yt (D.Yf (n:Int)) (n:Int) 5 else D.Xt (n:Int):=by unfold Pl.Qj;rw[if_neg h0,Int.toNat_natCast]
  have O:P.Qb D (n:Int)=match P.live n with
    |some (.node N)=>N
    |some (.bytes _ _)=>Qu
    |none=>if D.Xt (n:Int)=0 then Yu (D.Yf (n:Int)) (n:Int) else Qu:=by unfold Pl.Qb;rw[if_neg h0,Int.toNat_natCast]
  rw[M,O]
  cases E:P.live n with
  |some b=>
   have I:b.good:=by
    obtain⟨m,K,l,clock,v,V,L⟩:=H;exact L.good n b (Qfk E).2
   have f:=Qjl (w:=w) (p:=p) (a:=(n:Int)) (o:=1) (x:=b.out n 0) J λu g=>Qsd (H.below g) n b E
   cases b with
   |node N=>
    obtain⟨q,y⟩:=Qzy I z 1;rw[q,y] at f;exact f
   |bytes k l=>
    obtain⟨q,y⟩:=Qwh I (Qvp P Q E) z 1;rw[q,y] at f;exact f
  |none=>
   by_cases f:D.Xt (n:Int)=0
   ·have U:=Qjl (w:=w) (p:=p) (a:=(n:Int)) (o:=5) (x:=D.Yf (n:Int)) J λu g=>by
     have F:=Qhf (G.below g) (H.below g) n h0 E;rw[f] at F;exact F
    simp only[if_pos f];exact U
   ·simp only[if_neg f];exact Qlw (o:=5) f λu g=>(Qhf (G.below g) (H.below g) n h0 E).mono λe w' h=>by
     obtain⟨A,m,c,R,_,F⟩:=h;exact⟨A,m,c,R,F⟩
theorem Qwq {w:World}{p d:Nat}{S0 S T:Nat->Prop}{D:DM}{P:Pl}(f:Drv w d S0 D)(H:Pool w p d S T P)(g:∀a b,P.L a=some b->b.kindOk)(q:Tab w)(a:Int) :
  Calls Tryz.prog 37 #[.pointer (some ⟨p,0,none⟩),.int .i64 a] w λe w'=>Qtb (P.Qb D a) (P.Qj D a) w e w':=(Qgp f H g q a).mono λ_ _ h=>h.ans
def Pl.store (P:Pl)(D:DM):Int->Nd × Int:=λa=>(P.Qb D a,P.Qj D a)
theorem q24 {P:Pl}{c:Nat}(h:P.C.pick=some c){N:Nd}(e:N.may=true):P.Yd N=(c:Int)/\P.Xo N=0/\P.Xb N=P.lay (.node N):=by
 obtain⟨f,g,_⟩:=Ct.Zi h;unfold Pl.Yd Pl.Xo Pl.Xb;rw[if_pos e,if_pos e,if_pos e];exact⟨g,f,rfl⟩
theorem Ik {P:Pl}{D:DM}{a:Int}(h:(P.store D a).2=0):∃n:Nat,a=(n:Int)/\n<P.C.n/\P.C.get (n:Int)≠0:=by
 have h0:P.C.get a≠0:=λe=>by
  have h:P.Qj D a=0:=h;unfold Pl.Qj at h;rw[if_pos e] at h
  cases h
 obtain⟨n,rfl,hn⟩:=Xr h0;exact⟨n,rfl,hn,h0⟩
theorem Il {P:Pl}(D:DM){c:Nat}(h:P.C.pick=some c){N:Nd}(g:N.may=true):(P.Xb N).store D (c:Int)=(N,0):=by
 obtain⟨q,_⟩:=Ct.Zm h;have f:=F7 h (.node N) c q;have e:=Ar h (.node N) c;rw[if_pos rfl] at f e;rw[(q24 h g).2.2];unfold Pl.store Pl.Qb Pl.Qj Pl.live;rw[Int.toNat_natCast,f,e];rfl
theorem Dy {N:Nd}(e:N.may=true):(Bk.node N).fine:=(Gu e).fine
theorem Qhb {p:List Qq}(h:p≠[]):(⟨0,p,[]⟩:Nd).least=(Qx p 0).k:=by
 have e:0<p.length:=List.length_pos_iff.2 h;unfold Nd.least;rw[Ry,List.length_map,if_neg (by omega),Gn p e]
theorem Ii (l:Int){q:List Qk}(h:q≠[]):(⟨l,[],q⟩:Nd).least=(Ql q 0).k:=by
 have e:0<q.length:=List.length_pos_iff.2 h;unfold Nd.least;rw[Gy,List.length_map,if_neg (by omega),D8 q e]
theorem Io {G:List Zv}{x:Qq}:x∈rowOf G↔∃t∈G,x∈t.2:=by
 unfold rowOf;rw[List.mem_flatten];constructor
 ·rintro⟨r,g,f⟩;obtain⟨t,e,rfl⟩:=List.mem_map.1 g;exact⟨t,e,f⟩
 ·rintro⟨t,e,f⟩;exact⟨_,List.mem_map_of_mem e,f⟩
def Qxk (R R':Int->Nd × Int):Prop:=∀a,(R a).2=0->R' a=R a\/(R' a).2=5
theorem Qsw {P:Pl}{D:DM}{n:Nat}(h0:P.C.get (n:Int)≠0)(f:P.live n=none)(e:D.Xt (n:Int)=0):P.store D (n:Int)=(Yu (D.Yf (n:Int)) (n:Int),Yt (D.Yf (n:Int)) (n:Int) 5):=by
 unfold Pl.store Pl.Qb Pl.Qj;rw[if_neg h0,if_neg h0,Int.toNat_natCast,f];dsimp only;rw[if_pos e,if_pos e]
theorem Qsx {P:Pl}{D:DM}{n:Nat}(h0:P.C.get (n:Int)≠0){b:Bk}(f:P.live n=some b)(e:(P.store D (n:Int)).2=0):∃N,b=.node N/\P.store D (n:Int)=(N,0):=by
 cases b with
 |node N=>
  refine⟨N,rfl,?_⟩;unfold Pl.store Pl.Qb Pl.Qj;rw[if_neg h0,if_neg h0,Int.toNat_natCast,f]
 |bytes k l=>
  have e:P.Qj D (n:Int)=0:=e;unfold Pl.Qj at e;rw[if_neg h0,Int.toNat_natCast,f] at e;have e:(1:Int)=0:=e;omega
section
open Go.ChangeMaps (setBlock)
def isNode:Option Bk->Bool
 |some (.node _)=>true
 |_=>false
def Pl.Ql5 (P:Pl)(a:Int)(N:Nd):Bool:=N.may&&(P.C.fresh a&&isNode (P.L a.toNat))
def Pl.Qfz (P:Pl)(a:Int)(N:Nd):Int:=if P.Ql5 a N=true then 0 else 1
def Pl.Qch (P:Pl)(a:Int)(N:Nd):Pl:=if P.Ql5 a N=true then ⟨P.S,P.C,upd P.L a.toNat (some (.node N))⟩ else P
theorem Dz {C:Ct}{a:Int}(h:C.fresh a=true):C.get a≠0:=λh0=>by
 unfold Ct.fresh at h;rw[if_pos h0] at h
 cases h
def bkE:Bk->Int
 |.node _=>0
 |.bytes _ _=>1
theorem Qi4 {P:Pl}(D:DM){k:Nat}(h0:P.C.get (k:Int)≠0){b:Bk}(h:P.live k=some b):P.Qj D (k:Int)=bkE b:=by
 unfold Pl.Qj;rw[if_neg h0,Int.toNat_natCast,h]
 cases b<;>rfl
theorem Qsf {w0 w:World}{p d:Nat}{S0 S T:Nat->Prop}{D:DM}{P:Pl}(L0:Drv w d S0 D)(H:Pool w p d S T P)(e0:∀a b,P.L a=some b->b.kindOk)(d8:∀a:Nat,P.C.fresh (a:Int)=true->∃b,P.L a=some b)(hT:∀k,T k->k<w.1.size)(B0:Below w0.1.size w0 w)(a:Int)(N:Nd)(A:Option Addr)(n c:Nat)(B:Option Addr)(F G:Nat)(hI:Je w0 A n c N.items)(hK:Q7 w0 B F G N.kids)(hn:n<=1000)(hm:F<=1000)(ht:Tab w) :
  Calls Tryz.prog 237 #[.pointer (some ⟨p,0,none⟩),.int .i64 a,.agg #[.int .i64 N.lvl,.slice A n c,.slice B F G]] w λe w'=>e=.returned (.int .i64 (P.Qfz a N))/\Pool w' p d S T (P.Qch a N)/\Turn S w w':=by
 have Q:=H.ok;have N1:NB (w.alloc (.cells #[.int .i64 N.lvl,.slice A n c,.slice B F G] 77)) w.1.size N.lvl A n c B F G:=NB.new w _ _ _ _ _ _ _ _;have V:Below w.1.size w (w.alloc (.cells #[.int .i64 N.lvl,.slice A n c,.slice B F G] 77)):=Ib;have z1:(w.alloc (.cells #[.int .i64 N.lvl,.slice A n c,.slice B F G] 77)).1.size=w.1.size+1:=by simp
 obtain⟨r,hr⟩:∃r,N.may=r:=⟨_,rfl⟩;obtain⟨f,hf⟩:∃f,P.C.fresh a=f:=⟨_,rfl⟩;have a1:=Lib.hid (λw (hw:Below w0.1.size w0 w)=>Pm N r hr A n c B F G w (hI.below hw) (hK.below hw) hn hm);have b0:=Lib.hid (λ(w1:World) (H1:Pool w1 p d S T P)=>Qeq H1 a f hf);have c0:=N1.c0;have c1:=N1.c1;have c2:=N1.c2;have t1:=ht.below V ht.1;have H1:=H.below V;have B1:=B0.trans (V.mono B0.size);have hE:P.Qfz a N=if (r&&(f&&isNode (P.L a.toNat)))=true then 0 else 1:=by unfold Pl.Qfz Pl.Ql5;rw[hr,hf]
 have hP:P.Qch a N=if (r&&(f&&isNode (P.L a.toNat)))=true then ⟨P.S,P.C,upd P.L a.toNat (some (.node N))⟩ else P:=by unfold Pl.Qch Pl.Ql5;rw[hr,hf]
 rw[hE,hP];clear hE hP
 cases r with
 |false=>
  clear hf hr;go_enter Tryz.func237,Tryz.ntmps237
  go_wp2_with fail
  generalize w.alloc (.cells #[.int .i64 N.lvl,.slice A n c,.slice B F G] 77)=w1 at V N1 z1 c0 c1 c2 t1 H1 B1 ⊢;refine (a1.out w1 B1).mono ?_;rintro e w2 ⟨rfl,Z⟩;have I:=V.trans (Z.mono (by omega));go_wp2;go_ret;exact⟨rfl,H.below I,Uk I⟩
 |true=>
  cases f with
  |false=>
   clear hf hr;go_enter Tryz.func237,Tryz.ntmps237
   go_wp2_with fail
   generalize w.alloc (.cells #[.int .i64 N.lvl,.slice A n c,.slice B F G] 77)=w1 at V N1 z1 c0 c1 c2 t1 H1 B1 ⊢;refine (a1.out w1 B1).mono ?_;rintro e w2 ⟨rfl,Z⟩;have I:=V.trans (Z.mono (by omega));have H2:=H.below I;go_wp2_with fail
   refine (b0.out w2 H2).mono ?_;rintro e y ⟨rfl,rfl⟩;go_wp2;go_ret;exact⟨rfl,H2,Uk I⟩
  |true=>
   have O:=Dz hf;obtain⟨k,rfl,hk⟩:=Xr O;rw[Int.toNat_natCast];have c6:k<=2047:=by have:=Q.c.1;omega
   obtain⟨b,K⟩:=d8 k hf;have a6:P.live k=some b:=by unfold Pl.live;rw[if_neg O];exact K
   have b7:=Qi4 D O a6;have R:=λ(w2:World) (bb:Below w.1.size w w2)=>Qwq (L0.below bb) (H.below bb) e0 (ht.below bb ht.1) (k:Int)
   rw[b7] at R;obtain⟨M0,b6⟩:∃M0,P.Qb D (k:Int)=M0:=⟨_,rfl⟩;rw[b6] at R
   cases b with
   |bytes kk l=>
    rw[K];have b3:=Lib.hid R;clear hf hr R b7 b6 a6 K O;show Calls _ _ _ _ λe w'=>e=.returned (.int .i64 1)/\Pool w' p d S T P/\Turn S w w'
    go_enter Tryz.func237,Tryz.ntmps237
    go_wp2_with fail
    generalize w.alloc (.cells #[.int .i64 N.lvl,.slice A n c,.slice B F G] 77)=w1 at V N1 z1 c0 c1 c2 t1 H1 B1 ⊢;refine (a1.out w1 B1).mono ?_;rintro e w2 ⟨rfl,Z⟩;have I:=V.trans (Z.mono (by omega));have H2:=H.below I;go_wp2_with fail
    refine (b0.out w2 H2).mono ?_;rintro e y ⟨rfl,rfl⟩;go_wp2_with fail
    refine (b3.out w2 I).mono ?_;rintro e E ⟨A1,n1,q1,a8,m1,d1,rfl,_,_,_,_,b4⟩;have b5:Below E.1.size E (E.alloc (.cells #[.int .i64 0,.slice none 0 0,.slice none 0 0] 77)):=Ib;have R5:NB (E.alloc (.cells #[.int .i64 0,.slice none 0 0,.slice none 0 0] 77)) E.1.size 0 none 0 0 none 0 0:=NB.new E _ _ _ _ _ _ _ _;go_wp2_with (first
     |(refine Ir rfl _ _ rfl E.1.size rfl M0.lvl A1 n1 q1 a8 m1 d1 rfl R5 ?_;intro w6 R6 T6)
     |fail)
    go_ret;have B4:=I.trans (b4.mono I.size);have B6:Below w.1.size w w6:=(B4.trans (b5.mono B4.size)).trans (T6.below (λk hk=>by have:=B4.size;omega) (by have h1:=B4.size;have h2:=b5.size;omega));exact⟨rfl,H.below B6,Uk B6⟩
   |node M=>
    rw[K];have b3:=Lib.hid R;obtain⟨c7,e4,_⟩:=q23 hr c6 Rx;have b9:=Gu hr;have W:=b9.len (a:=k) (g:=0) c6 Rx;have c8:(Bk.node N).out k 0=Jw N (k:Int) 0:=rfl;rw[c8] at W;have d2:=Lib.hid c7;have e5:=Lib.hid W;have J:∀c:Nat,Pl.live ⟨P.S,P.C,upd P.L k (some (.node N))⟩ c=if c=k then some (.node N) else P.live c:=λc=>by
     unfold Pl.live;by_cases e:c=k
     ·subst e;rw[if_pos rfl,if_neg O];exact Y9 _ _ _
     ·rw[if_neg e];show (if _ then _ else upd P.L k _ c)=_;rw[Y8 _ _ e]
    have u:∀c x,(upd P.L k (some (.node N))) c=some x->x.good:=λc x h=>by
     by_cases e:c=k
     ·subst e;rw[Y9] at h;injection h with h;rw[<-h];exact b9
     ·rw[Y8 _ _ e] at h;obtain⟨m,d4,l,clock,v,Sc,L⟩:=H;exact L.good c x h
    have a7:Pl.ok ⟨P.S,P.C,upd P.L k (some (.node N))⟩:=⟨Q.c,Q.res,Q.may,Q.sec,Q.gen,λc x h=>(u c x h).fine⟩;have d0:=Lib.hid J;have c9:=Lib.hid u;have b8:=Lib.hid a7;obtain⟨m,d4,l,clock,v,Sc,L⟩:=H;have X:¬Qd (k:Int) l=none:=by rw[L.look k,a6];exact λh=>nomatch h
    have U:=Lib.hid X;have e9:=L.Yw;have e7:=L.mlt;clear hf hr R b7 b6 a6 K O c7 e4 W c8 J u a7 X;show Calls _ _ _ _ λe w'=>e=.returned (.int .i64 0)/\Pool w' p d S T ⟨P.S,P.C,upd P.L k (some (.node N))⟩/\Turn S w w'
    go_enter Tryz.func237,Tryz.ntmps237
    go_wp2_with fail
    generalize w.alloc (.cells #[.int .i64 N.lvl,.slice A n c,.slice B F G] 77)=w1 at V N1 z1 c0 c1 c2 t1 H1 B1 ⊢;refine (a1.out w1 B1).mono ?_;rintro e w2 ⟨rfl,Z⟩;have I:=V.trans (Z.mono (by omega));have H2:=H1.below Z;go_wp2_with fail
    refine (b0.out w2 H2).mono ?_;rintro e f1 ⟨rfl,rfl⟩;go_wp2_with fail
    refine (b3.out w2 I).mono ?_;rintro e E ⟨A1,n1,q1,a8,m1,d1,rfl,_,_,_,_,b4⟩;have b5:Below E.1.size E (E.alloc (.cells #[.int .i64 0,.slice none 0 0,.slice none 0 0] 77)):=Ib;have R5:NB (E.alloc (.cells #[.int .i64 0,.slice none 0 0,.slice none 0 0] 77)) E.1.size 0 none 0 0 none 0 0:=NB.new E _ _ _ _ _ _ _ _;have B4:=I.trans (b4.mono I.size);go_wp2_with (first
     |(refine Ir rfl _ _ rfl E.1.size rfl M0.lvl A1 n1 q1 a8 m1 d1 rfl R5 ?_;intro y R6 T6;have e6:(bkE (.node M)!=0)=false:=rfl)
     |fail)
    have B3:Below w.1.size w y:=(B4.trans (b5.mono B4.size)).trans (T6.below (λk hk=>by have:=B4.size;omega) (by have h1:=B4.size;have h2:=b5.size;omega));have z2:=Z.size;have z3:=B3.size;have N3:NB y w.1.size N.lvl A n c B F G:=by
     have N2:=N1.below Z (by omega);have N4:=N2.below b4 N2.lt;have N5:=N4.below b5 N4.lt;have e3:=N5.lt;obtain⟨t,h⟩:=N5;exact⟨t,(T6.block w.1.size e3 (by have:=N4.lt;omega)).trans h⟩
    have L3:=L.below B3;have Fj:=L3.c40;have t3:Tab y:=ht.below B3 ht.1;have d7:w.1.size≠m:=λe=>by have h1:=hT m (L.sub _ L.Zk.2.1);omega
    have hF:∀w',Below y.1.size y w'->w'.cell? ⟨p,40,none⟩=some (.map (some m))/\w'.cell? ⟨w.1.size,0,none⟩=some (.int .i64 N.lvl)/\w'.cell? ⟨w.1.size,1,none⟩=some (.slice A n c)/\w'.cell? ⟨w.1.size,2,none⟩=some (.slice B F G):=λw' K=>
     have N':=N3.below K N3.lt;⟨(K.cell (p:=⟨p,40,none⟩) (by show p<_;omega)).trans Fj,N'.c0,N'.c1,N'.c2⟩
    have d5:∀w' (o:Obj),Below y.1.size y w'->(setBlock w' m o).cell? ⟨p,40,none⟩=some (.map (some m))/\(setBlock w' m o).cell? ⟨w.1.size,0,none⟩=some (.int .i64 N.lvl)/\(setBlock w' m o).cell? ⟨w.1.size,1,none⟩=some (.slice A n c)/\(setBlock w' m o).cell? ⟨w.1.size,2,none⟩=some (.slice B F G):=λw' o K=>by
     have hz:=K.size;have e8:=N3.lt;have TB:Turn (λk=>k=m) w' (setBlock w' m o):=Gh _ rfl;obtain⟨h1,h2,h3,h4⟩:=hF w' K;have e1:=TB.block p (by omega) L.Vm;have e2:=TB.block w.1.size (by omega) d7;exact⟨(World.cell?_of_block (a:=⟨p,40,none⟩) e1).trans h1,(World.cell?_of_block (a:=⟨w.1.size,0,none⟩) e2).trans h2,(World.cell?_of_block (a:=⟨w.1.size,1,none⟩) e2).trans h3,(World.cell?_of_block (a:=⟨w.1.size,2,none⟩) e2).trans h4⟩
    have BD:Below y.1.size y y.drew:=(Below.refl _ _).drew;have d3:=Lib.hid (λ(w':World) (K:Below y.1.size y w') (v':Value)=>(congrArg (λz:Nat=>Result.ok () (setBlock w' m (.map (Qv (k:Int) v' clock l).toArray z))) (if_neg U.out)).subst (motive:=λr=>(Instr.mapUpdate 123 (.map (some m)) (.int .i64 (k:Int)) v').run Tryz.prog w'=r) (Tv L.ents Tryz.underlying123 Tryz.underlying3 ((K.block m (by omega)).trans L3.map) (k:Int) v'));have BI:=B0.trans ((B3.trans (BD.mono B3.size)).mono B0.size);clear c0 c1 c2 H1 H2 R6 R5;go_wp2_with fail
    go_region_held3 (λw'=>w'.cell? ⟨p,40,none⟩=some (.map (some m))/\w'.cell? ⟨w.1.size,0,none⟩=some (.int .i64 N.lvl)/\w'.cell? ⟨w.1.size,1,none⟩=some (.slice A n c)/\w'.cell? ⟨w.1.size,2,none⟩=some (.slice B F G))
     (first|assumption|exact hF _ BD|exact hF _ a2|exact d5 _ _ a2)
     (first
      |(go_at_call 251;refine (Qic N (k:Int) 0 A n c B F G _ (hI.below BI) (hK.below BI) hn hm (t3.below BD t3.1)).mono ?_;rw[d2.out];rintro e E ⟨A3,n3,c3,rfl,Y,d9,d6⟩;have a2:Below y.1.size y E:=BD.trans d6;have f0:=d3.out E a2)
      |fail)
    obtain⟨q,rfl,rfl,rfl⟩:=d9 (by first|trivial|rfl);have hq:=(Y.block ⟨q,0,none⟩ rfl).1;obtain⟨R1,R2⟩:=L3.store (P':=⟨P.S,P.C,upd P.L k (some (.node N))⟩) (b:=.node N) (Turn.refl _ _) L3.ct a2 rfl rfl hk d0.out c9.out b8.out Y.sl (λh=>by have h1:=hT q h;have h2:y.drew.1.size=y.1.size:=rfl;have h3:y.drew.1.size<=q:=hq;omega);rw[if_neg U.out] at R1 R2;go_wp2;go_ret;exact⟨rfl,R1,(Uk (S:=S) B3).trans R2 λk hk=>.inl hk⟩
end
def Pl.cnt (P:Pl)(a:Nat):Nat:=(P.C.get (a:Int)).toNat
def Pl.names (P:Pl)(D:DM)(a:Nat):List Int:=(P.Qb D (a:Int)).named
def Pl.Xd (P:Pl)(D:DM)(H:List Int):Prop:=Qs P.C.n P.cnt (P.names D) H
theorem Fg {P:Pl}{a:Nat}(e:P.C.ok):1<=P.cnt a↔P.C.get (a:Int)≠0:=by
 have:=(Ct.Q5 e (a:Int)).1;unfold Pl.cnt;omega
theorem Qn4 {P:Pl}(f:P.C.res):P.cnt 0=0:=by
 have h:P.C.get ((0:Nat):Int)=0:=by
  by_cases e:P.C.get ((0:Nat):Int)=0
  ·exact e
  ·have:=(Ct.Zy f e).2.2;have h2:P.C.first=2+2*Qi P.C.n:=rfl
   simp at this;omega
 unfold Pl.cnt;rw[h];rfl
theorem Y0 (C:Ct){c:Nat}{x:Int}(b:Nat)(e:b<C.n):(C.put c x).get (b:Int)=if b=c then x else C.get (b:Int):=by
 unfold Ct.get;rw[C.Qc,if_pos (show 0<=(b:Int)/\(b:Int)<(C.n:Int) by omega),if_pos (show 0<=(b:Int)/\(b:Int)<(C.n:Int) by omega),Int.toNat_natCast,Vx C c x b e]
structure Za (D:DM)(P:Pl)(S0:Sp)(C0:Ct):Prop where
 ok:P.ok
 sound:Sound D P S0 C0
 kinds:∀a b,P.L a=some b->b.kindOk/\b.good
theorem Za.kind {D:DM}{P:Pl}{S0:Sp}{C0:Ct}(h:Za D P S0 C0):∀a b,P.L a=some b->b.kindOk:=λa b e=>(h.kinds a b e).1
theorem Za.good {D:DM}{P:Pl}{S0:Sp}{C0:Ct}(h:Za D P S0 C0):∀a b,P.L a=some b->b.good:=λa b e=>(h.kinds a b e).2
theorem Za.put {D:DM}{P:Pl}{S0:Sp}{C0:Ct}(h:Za D P S0 C0){N:Nd}(hN:N.may=true)(hf:0<P.C.free):Za D (P.Xb N) S0 C0/\P.Xo N=0/\(P.Xb N).C.free+1=P.C.free:=by
 obtain⟨c,f⟩:=Ct.Z9 hf;obtain⟨_,u,v3⟩:=q24 f hN;have g:=Ct.Jt f;have q:(P.Xb N).C=P.C.alloc:=by rw[v3,Vw f]
 refine⟨⟨by rw[v3];exact Hf h.ok (Dy hN),by rw[v3];exact Ed h.sound _,λa b e=>?_⟩,u,by rw[q];exact g⟩;rw[v3,Ar f] at e;split at e
 ·obtain rfl:=Option.some.inj e;exact⟨trivial,Gu hN⟩
 ·exact h.kinds a b e
def Ua (R:Int->Nd × Int)(root:Int)(its:List Qq):Prop:=(its=[]/\root=0)\/∃l,l<=6/\Qe R l root its/\1<=root/\root<2048
def Yq (R:Int->Nd × Int)(a:Int):Nat:=(R a).1.lvl.toNat
def Ql3 (R:Int->Nd × Int)(fr «to»:Kd)(most root:Int):List Qq × Int:=if root=0\/most<1 then ([],0) else Ny R fr «to» most.toNat (Yq R root) root []
theorem Gv {R:Int->Nd × Int}:∀{l:Nat} {a:Int} {its:List Qq},Qe R l a its->Yq R a=l/\(R a).1.lvl=(l:Int)/\(R a).2=0
 |0,a,its,h=>by
  unfold Yq;rw[h.1];exact⟨rfl,rfl,rfl⟩
 |l+1,a,its,h=>by
  obtain⟨kids,parts,h1,_⟩:=h;unfold Yq;rw[h1];exact⟨Int.toNat_natCast _,rfl,rfl⟩
theorem Qxb {R:Int->Nd × Int}{root:Int}{its:List Qq}(h:Ua R root its)(e:Zt its)(fr «to»:Kd)(most:Int):Ql3 R fr «to» most root=((within fr «to» its).take most.toNat,0):=by
 unfold Ql3;rcases h with⟨rfl,rfl⟩|⟨l,_,h,h1,_⟩
 ·rw[if_pos (.inl rfl)];simp[within]
 ·by_cases hm:most<1
  ·rw[if_pos (.inr hm),show most.toNat=0 by omega,List.take_zero]
  ·rw[if_neg (by omega),(Gv h).1,Qiq fr «to» _ l root its [] h e (Nat.zero_le _),List.nil_append]
theorem Gp {ks:List Kd}(h:rises ks=true):∀(j i:Nat),i<j->j<ks.length->(keyAt ks i).less (keyAt ks j)=true
 |0,i,hi,_=>absurd hi (Nat.not_lt_zero _)
 |j+1,i,hi,hj=>by
  have h1:Ja ks (j+1)=true:=by
   unfold rises at h;rw[List.all_eq_true] at h;exact h _ (List.mem_range.2 hj)
  have h2:(keyAt ks j).less (keyAt ks (j+1))=true:=by
   unfold Ja at h1;simp at h1;exact h1.2
  by_cases e:i=j
  ·rw[e];exact h2
  ·exact Kd.trans _ _ _ (Gp h j i (by omega) (by omega)) h2
theorem q12 {N:Nd}(hm:N.may=true)(h0:N.lvl=0):N=⟨0,N.items,[]⟩/\Zt N.items/\1<=N.items.length/\N.items.length<=6:=by
 have E:=(U0 hm).1 h0;unfold Nd.may at hm;rw[if_pos h0,Bool.and_eq_true,Bool.and_eq_true] at hm;obtain⟨_,h2,f⟩:=hm;have f:=of_decide_eq_true f;refine⟨by cases N;simp_all,?_,f.2⟩;have z:N.keys=N.items.map (·.k):=by unfold Nd.keys;rw[E];simp
 rw[z] at h2;unfold Zt;rw[List.pairwise_iff_getElem];intro i j hi u g;have:=Gp h2 j i g (by rw[List.length_map];exact u);rw[Gn _ hi,Gn _ u] at this;have e:∀q (y:q<N.items.length),Qx N.items q=N.items[q]:=λq y=>by unfold Qx;rw[List.getD_eq_getElem?_getD,List.getElem?_eq_getElem y];rfl
 rwa [e i hi,e j u] at this
theorem q13 {N:Nd}(hm:N.may=true)(h0:N.lvl≠0):N=⟨N.lvl,[],N.kids⟩/\1<=N.lvl/\N.lvl<8/\2<=N.kids.length/\N.kids.length<=12/\∀k,N.Xv k<N.kids.length:=by
 have E:=(U0 hm).2 h0;unfold Nd.may at hm;rw[if_neg h0,Bool.and_eq_true,Bool.and_eq_true] at hm;obtain⟨_,h2,z⟩:=hm;obtain⟨g,q,_,u,y⟩:=of_decide_eq_true z;refine⟨by cases N;simp_all,g,q,u,y,λk=>?_⟩;have f:N.keys=N.kids.map (·.k):=by unfold Nd.keys;rw[E];simp
 unfold Nd.Xv;rw[if_neg h0,f,List.length_map];rcases D7 (N.kids.map (·.k)) k N.kids.length with e|e<;>omega
def Qfx («to»:Kd)(most:Nat):List Qq->List Qq->List Qq
 |[],acc=>acc
 |x::r,acc=>if «to».less x.k=true\/most<=acc.length then acc else Qfx «to» most r (acc++[x])
theorem Qjv {fr «to»:Kd}{most:Nat}:∀(r e:List Qq),Zt r->(∀x∈r,x.k.less fr=false)->e.length<=most->Qfx «to» most r e=(e++within fr «to» r).take most
 |[],e,_,_,ha=>by
  show e=_;rw[show within fr «to» []=[] from rfl,List.append_nil,List.take_of_length_le ha]
 |x::r,e,hr,hf,ha=>by
  obtain⟨u,E⟩:=List.pairwise_cons.1 hr;unfold Qfx;by_cases f:«to».less x.k=true
  ·rw[if_pos (.inl f),Qbg λz g=>.inr (by
    rcases List.mem_cons.1 g with rfl|g
    ·exact f
    ·exact Kd.trans _ _ _ f (u z g)),List.append_nil,List.take_of_length_le ha]
  ·by_cases hm:most<=e.length
   ·rw[if_pos (.inr hm),Qbf hm,List.take_of_length_le ha]
   ·rw[if_neg (by rintro (h|h);exact f h;exact hm h),Qjv r _ E (λy q=>hf y (List.mem_cons_of_mem _ q)) (by rw[List.length_append,List.length_singleton];omega)];have:within fr «to» (x::r)=x::within fr «to» r:=by
     unfold within;rw[List.filter_cons,hf x (List.mem_cons_self ..),if_pos (by simp;simpa using f)]
    rw[this,List.append_assoc];rfl
theorem Qv5 {its:List Qq}(M:Zt its)(fr «to»:Kd){most:Nat}(g:List Qq)(I:g.length<=most):Qfx «to» most (its.drop (lead (its.map (·.k)) fr)) g=(g++within fr «to» its).take most:=by
 obtain⟨j,F⟩:∃j,lead (its.map (·.k)) fr=j:=⟨_,rfl⟩;have K:j<=its.length:=by have:=Qfh (its.map (·.k)) fr;rw[List.length_map] at this;omega
 have e:∀q (z:q<its.length),Qx its q=its[q]:=λq z=>by unfold Qx;rw[List.getD_eq_getElem?_getD,List.getElem?_eq_getElem z];rfl
 have h1:within fr «to» (its.take j)=[]:=Qbg λx u=>.inl (by
  obtain⟨q,z,H⟩:=List.getElem_of_mem u;rw[List.length_take] at z;have:=Qc7 (its.map (·.k)) fr q (by omega);rw[Gn its (by omega),e q (by omega)] at this;rw[<-H,List.getElem_take];exact this)
 have h2:within fr «to» its=within fr «to» (its.drop j):=by
  conv=>lhs;rw[<-List.take_append_drop j its]
  have:within fr «to» (its.take j++its.drop j)=within fr «to» (its.take j)++within fr «to» (its.drop j):=by unfold within;rw[List.filter_append]
  rw[this,h1,List.nil_append]
 rw[F,h2];have y:Zt (its.drop j):=by
  have:Zt (its.take j++its.drop j):=by rw[List.take_append_drop];exact M
  exact (List.pairwise_append.1 this).2.1
 refine Qjv _ g y (λx u=>?_) I;by_cases f:j<its.length
 ·have E:(Qx its j).k.less fr=false:=by
   have:=Qgl (its.map (·.k)) fr (by rw[F,List.length_map];exact f);rwa [F,Gn its f] at this
  rw[List.drop_eq_getElem_cons f] at u y;rcases List.mem_cons.1 u with rfl|u
  ·rw[<-e j f];exact E
  ·have G:=(List.pairwise_cons.1 y).1 x u;rw[<-e j f] at G
   cases J:x.k.less fr with
   |false=>rfl
   |true=>rw[Kd.trans _ _ _ G J] at E;cases E
 ·rw[List.drop_eq_nil_of_le (by omega)] at u
  cases u
theorem Qgm {P:Pl}{D:DM}{a:Int}(h:P.Qj D a≠0):P.Qb D a=Qu:=by
 unfold Pl.Qj at h;unfold Pl.Qb;by_cases h0:P.C.get a=0
 ·rw[if_pos h0]
 ·rw[if_neg h0] at h ⊢;split at h
  ·exact absurd rfl h
  ·rfl
  ·by_cases e:D.Xt a=0
   ·rw[if_pos e] at h ⊢;unfold Yt at h;unfold Yu
    cases f:Xh (D.Yf a) a with
    |none=>rfl
    |some N=>rw[f] at h;exact absurd rfl h
   ·rw[if_neg e]
structure Pl.Ud (P:Pl)(D:DM):Prop where
 may:∀a:Nat,a<P.C.n->P.C.get (a:Int)≠0->P.Qj D (a:Int)=0->(P.Qb D (a:Int)).may=true
 data:∀a:Nat,a<P.C.n->P.C.get (a:Int)≠0->P.Qj D (a:Int)=0->∀x∈(P.Qb D (a:Int)).items,∀c:Int,Vy x=some c->P.Qj D c≠0
 kids:∀a:Nat,a<P.C.n->P.C.get (a:Int)≠0->P.Qj D (a:Int)=0->∀x∈(P.Qb D (a:Int)).kids,∃c:Nat,x.a=(c:Int)/\0<c/\c<P.C.n/\P.C.get (c:Int)≠0/\P.Qj D (c:Int)=0/\(P.Qb D (c:Int)).lvl+1=(P.Qb D (a:Int)).lvl/\(P.Qb D (c:Int)).least=x.k
def Pl.lev (P:Pl)(D:DM)(a:Nat):Nat:=if P.Qj D (a:Int)=0 then (P.Qb D (a:Int)).lvl.toNat+1 else 0
theorem Qdq {N:Nd}(h:N.may=true):0<=N.lvl/\N.lvl<8:=by
 by_cases h0:N.lvl=0
 ·omega
 ·have:=(q13 h h0).2;omega
section
variable {P:Pl}{D:DM}
theorem Ti {b a:Nat}(hm:(a:Int)∈P.names D b):P.Qj D (b:Int)=0:=by
 by_cases h:P.Qj D (b:Int)=0
 ·exact h
 ·unfold Pl.names at hm;rw[Qgm h] at hm
  cases hm
theorem Qb3 {b:Nat}(h:P.Qj D (b:Int)=0):P.C.get (b:Int)≠0:=λe=>by
 unfold Pl.Qj at h;rw[if_pos e] at h
 cases h
theorem Qej (h:P.Ud D){b a:Nat}(q:b<P.C.n)(hm:(a:Int)∈P.names D b):((∃x∈(P.Qb D (b:Int)).kids,x.a=(a:Int))/\0<a/\a<P.C.n/\P.C.get (a:Int)≠0/\P.Qj D (a:Int)=0/\(P.Qb D (a:Int)).lvl+1=(P.Qb D (b:Int)).lvl)\/P.Qj D (a:Int)≠0:=by
 have g:=Ti hm;have h0:=Qb3 g;unfold Pl.names Nd.named at hm;rcases List.mem_append.1 hm with hm|hm
 ·obtain⟨x,f,e⟩:=List.mem_map.1 hm;obtain⟨c,h1,h2,u,y,z,E,_⟩:=h.kids b q h0 g x f;have:a=c:=by rw[h1] at e;omega
  subst this;exact .inl ⟨⟨x,f,e⟩,h2,u,y,z,E⟩
 ·obtain⟨x,f,e⟩:=List.mem_filterMap.1 hm;exact .inr (h.data b q h0 g x f _ e)
theorem Qrp (h:P.Ud D)(b a:Nat)(g:b<P.C.n)(hm:(a:Int)∈P.names D b):P.lev D a<P.lev D b:=by
 have f:=Ti hm;unfold Pl.lev;rw[if_pos f];rcases Qej h g hm with⟨_,y,q,u,e,z⟩|k
 ·have E:=Qdq (h.may a q u e);rw[if_pos e];omega
 ·rw[if_neg k];omega
theorem Zcs (h:P.Ud D)(b:Nat):P.lev D b<=8:=by
 unfold Pl.lev;by_cases f:P.Qj D (b:Int)=0
 ·rw[if_pos f];have h0:=Qb3 f;obtain⟨c,e,g⟩:=Xr h0;have e:b=c:=by omega
  subst e;have q:=Qdq (h.may b g h0 f);omega
 ·rw[if_neg f];omega
theorem Qim {H:List Int}(K:P.Xd D H)(h:P.Ud D)(J:P.C.ok)(f:P.C.res){S:Nat->Prop}(G:∀a:Nat,0<a->a<P.C.n->(a:Int)∈H->P.Qj D (a:Int)=0->S a)
  (F:∀b a:Nat,0<b->b<P.C.n->0<a->a<P.C.n->P.Qj D (b:Int)=0->S b->(∃x∈(P.Qb D (b:Int)).kids,x.a=(a:Int))->S a) (a:Nat) (h1:a<P.C.n) (h2:P.Qj D (a:Int)=0):S a:=by
 have y:1<=P.cnt a:=(Fg J).2 (Qb3 h2);have g:0<a:=by
  rcases Nat.eq_zero_or_pos a with e|e
  ·subst e;have:=Qn4 f;omega
  ·exact e
 exact Qs.reached K (B:=8) (P.lev D) (λb a q _ hm=>Qrp h b a q hm) (Zcs h) (Qn4 f) (S:=λa=>P.Qj D (a:Int)=0->S a) G (λb a z q g I _ u hm E=>by
  rcases Qej h q hm with⟨M,_⟩|k
  ·exact F b a z q g I (Ti hm) (u (Ti hm)) M
  ·exact absurd E k) (8-P.lev D a) a (Nat.le_refl _) g h1 y h2
end
section
variable {b:Nat}{w w':World}{d p:Nat}{S0 S T S':Nat->Prop}{D:DM}{P:Pl}
theorem Zb.below (H:Zb b w d p S0 S T D P)(hb:Below w.1.size w w'):Zb b w' d p S0 S T D P:=
 ⟨H.Vh.below hb,H.pool.below hb,H.sub,H.apart,λk e=>⟨(H.tight k e).1,by have:=(H.tight k e).2;have:=hb.size;omega⟩⟩
theorem Zb.more (H:Zb b w d p S0 S T D P)(hb:Below w.1.size w w'):Zb b w' d p S0 S (grow T w w') D P:=by
 have g:=H.base;have f:=H.Va;have q:=hb.size;refine⟨H.Vh.below hb,(H.pool.mono (S':=S) (T':=grow T w w') (λk _ h=>h) (λk e h=>?_) (λk h=>⟨.inl (f k h),by have:=(H.tight k (f k h)).2;omega⟩)).below hb,λk e=>⟨.inl (H.sub k e),by have:=(H.tight k (H.sub k e)).2;omega⟩,H.apart,λk e=>⟨e.1.elim (λh=>(H.tight k h).1) λh=>by omega,e.2⟩⟩;exact h.1.elim id λh=>by omega
theorem Zb.own (H:Zb b w d p S0 S T D P)(t:Turn S' w w')(hT:∀k,S' k->T k)(h0:∀k,S' k->¬S0 k)(h1:∀k,S' k->¬S k):Zb b w' d p S0 S T D P:=
 ⟨H.Vh.keep λk e f=>t.block k e λh=>h0 k h f,H.pool.other t hT h1,H.sub,H.apart,λk e=>⟨(H.tight k e).1,by have:=(H.tight k e).2;have:=t.size;omega⟩⟩
end
section
variable {w w':World}{base:Nat}{A:Option Addr}{n c:Nat}{an:List Nat}
end
theorem Qk0 {b:List UInt8}{a:Int}{N:Nd}(h:Xh b a=some N):N.may=true:=by
 unfold Xh at h;split at h
 ·unfold Uc at h
  cases f:Ky (Vk b).level (Gf b) (Vk b).count.toNat with
  |none=>rw[f] at h;cases h
  |some x=>
   obtain⟨M,r⟩:=x;rw[f] at h;dsimp only at h;by_cases e:(Vk b).kind=(if (Vk b).level=0 then 3 else 4)/\(Vk b).addr=a/\Wl r=true/\M.may=true
   ·rw[if_pos e] at h;obtain rfl:=Option.some.inj h;exact e.2.2.2
   ·rw[if_neg e] at h
    cases h
 ·cases h
theorem Qw2 {P:Pl}{D:DM}(y:∀a b,P.L a=some b->b.good)(a:Int)(h:(P.store D a).2=0):(P.store D a).1.may=true:=by
 obtain⟨n,rfl,hn,h0⟩:=Ik h
 cases q:P.live n with
 |some b=>
  obtain⟨N,rfl,e⟩:=Qsx h0 q h;rw[e];exact Qa7 (y n _ (Qfk q).2)
 |none=>
  have f:P.Qj D (n:Int)=0:=h;unfold Pl.Qj at f;rw[if_neg h0,Int.toNat_natCast,q] at f;dsimp only at f;by_cases g:D.Xt (n:Int)=0
  ·rw[Qsw h0 q g];rw[if_pos g] at f;unfold Yt at f;unfold Yu
   cases u:Xh (D.Yf (n:Int)) (n:Int) with
   |some N=>exact Qk0 u
   |none=>rw[u] at f;simp at f
  ·rw[if_neg g] at f;exact absurd f g
structure Src (w0:World)(p:Nat)(R:Int->Nd × Int):Prop where
 node:∀u,Below w0.heap.size w0 u->Tab u->∀a,Calls Tryz.prog 37 #[.pointer (some ⟨p,0,none⟩),.int .i64 a] u λe w'=>Fe (R a).1 (R a).2 u e w'
 may:∀a,(R a).2=0->(R a).1.may=true
theorem src_of {w:World}{p d:Nat}{S0 S T:Nat->Prop}{D:DM}{P:Pl}(f:Drv w d S0 D)(H:Pool w p d S T P)(q:∀a b,P.L a=some b->b.kindOk)(g:∀a b,P.L a=some b->b.good):Src w p (P.store D):=
 ⟨λ_ e u a=>Qgp (f.below e) (H.below e) q u a,λa h=>Qw2 g a h⟩
theorem Src.below {w0 w1:World}{p:Nat}{R:Int->Nd × Int}(h:Src w0 p R)(hb:Below w0.1.size w0 w1):Src w1 p R:=
 ⟨λu f e a=>h.node u (hb.trans (f.mono hb.size)) e a,h.may⟩
