/- The code's pool: Commit -/
import Derived.Test.YtnnbaihfboacoaaGreatDoorEt19
import Derived.Test.YtnnbaihfboacoaaGreatDoorEt20
import Derived.Shelf.SlIterI.Nil
import Derived.Shelf.SlIterI.Sorted
import Derived.Shelf.SortM.Plain
import Derived.Shelf.SortM.SortNone
import Derived.Shelf.SlMaps.Clone
namespace Go.Proofs.YtnnbaihfboacoaaGreatDoor
open Go Go.RowKit Go.Proofs
set_option maxHeartbeats 8000000
set_option maxRecDepth 100000
section
open Go.ChangeMaps (setBlock)
section
variable {w w1:World}{p d m clock:Nat}{cur:Array Value}{l:List MapEntry}{v:Nat->Value}{Sc S T:Nat->Prop}{P:Pl}
theorem PL.apart {S0:Nat->Prop}(L:PL w p d m cur l clock v Sc S T P)(hSS:∀k,S0 k->¬S k):∀k,S0 k->k≠p/\¬Sc k:=λk f=>⟨λe=>hSS k f (e▸L.Xu.1),λh=>hSS k f (L.Xu.2.2 k h)⟩
end
attribute [local go_sem ↓] q1n q3f
end
section
theorem qt6 (C:Ct)(a:Int)(c:Nat)(u:C.ok):(C.ref a).get (c:Int)=0↔C.get (c:Int)=0:=by
 by_cases h:C.Y8 a=0
 ·have f:C.ref a=C.put a.toNat (C.get a+1):=by unfold Ct.ref;rw[if_pos h]
  have h0:C.get a≠0:=λe=>by unfold Ct.Y8 at h;rw[if_pos e] at h;omega
  have E:0<=a/\a<(C.n:Int):=Classical.byContradiction λh2=>h0 (by unfold Ct.get;rw[if_neg h2])
  have I:=C.Jc u a;obtain⟨V,F⟩:∃V,C.get a+1=V:=⟨_,rfl⟩;rw[f,F];by_cases H:c<C.n
  ·have h1:(C.put a.toNat V).get (c:Int)=nm (C.put a.toNat V).now c:=by unfold Ct.get;rw[C.Zi,if_pos (by omega),Int.toNat_natCast]
   have h2:C.get (c:Int)=nm C.now c:=by unfold Ct.get;rw[if_pos (by omega),Int.toNat_natCast]
   rw[h1,q6d _ _ _ _ H];by_cases e:c=a.toNat
   ·have G:(c:Int)=a:=by omega
    rw[if_pos e,G];constructor
    ·intro y;omega
    ·intro y;exact absurd y h0
   ·rw[if_neg e,h2]
  ·have h1:(C.put a.toNat V).get (c:Int)=0:=by unfold Ct.get;rw[C.Zi,if_neg (by omega)]
   have h2:C.get (c:Int)=0:=by unfold Ct.get;rw[if_neg (by omega)]
   rw[h1,h2]
 ·have f:C.ref a=C:=by unfold Ct.ref;rw[if_neg h]
  rw[f]
theorem qxx {P:Pl}(h:P.ok)(a:Int):Pl.ok ⟨P.S,P.C.ref a,P.L⟩:=
 ⟨Ct.Qas h.c a,Ct.Qat h.res a,h.may,by show P.S.Qb=((P.C.ref a).n:Int);rw[Ct.Qa1];exact h.sec,h.gen,h.fine⟩
theorem qt7 {w:World}{p d:Nat}{S T:Nat->Prop}{P:Pl}(H:Pool w p d S T P)(a:Int) :
  Calls Tryz.prog 20 #[.pointer (some ⟨p,0,none⟩),.int .i64 a] w λe w'=>e=.returned (.int .i64 (P.C.Y8 a))/\Pool w' p d S T ⟨P.S,P.C.ref a,P.L⟩/\Turn S w w':=by
 have f:=H.ok;obtain⟨m,cur,l,clock,v,Sc,L⟩:=H;have u:=qss L.ct a;have M:=L.Ie;have y:=Lib.hid (qxx f a);have J:=Lib.hid (λc=>qt6 P.C a c f.c);obtain⟨E,G⟩:∃E,P.C.Y8 a=E:=⟨_,rfl⟩;rw[G] at u ⊢;have F:=Lib.hid u;clear u G f;go_enter Tryz.func20,Tryz.ntmps20
 go_wp2_with fail
 refine F.out.mono ?_;rintro e w1 ⟨rfl,K,I⟩;have R:=L.Qbl I K (Ct.Qa1 _ _) (λc=>J.out c) y.out;go_wp2;go_ret;exact⟨rfl,⟨m,cur,l,clock,v,Sc,R⟩,I.mono L.Xu.2.2⟩
theorem q7q {w:World}{p d:Nat}{S T:Nat->Prop}{P:Pl}(H:Pool w p d S T P)(a:Int)(r:Bool)(u:P.C.fresh a=r) :
  Calls Tryz.prog 144 #[.pointer (some ⟨p,0,none⟩),.int .i64 a] w λe w'=>e=.returned (.bool r)/\w=w':=by
 obtain⟨m,cur,l,clock,v,Sc,L⟩:=H;have f:=qlw L.ct a r u;go_enter Tryz.func144,Tryz.ntmps144
 go_wp2_with fail
 refine f.mono ?_;rintro e w1 ⟨rfl,rfl⟩;go_wp2;go_ret;exact⟨rfl,rfl⟩
attribute [local go_sem ↓] q1n
end
section
open Go.ChangeMaps (setBlock)
theorem q5k {N:Nd}(hm:N.may=true){a:Nat}{g:Int}(E:a<=2047)(u:Es g):Zk N (a:Int) g=0/\Jm N (a:Int) g=Zr (N.head (a:Int) g) N.body/\(N.head (a:Int) g).ok=true:=by
 have e:Zk N (a:Int) g=0:=Classical.byContradiction λh=>by
  have h2:=(qsp hm h).2;have G:=u.1;have F:=u.2;omega
 refine⟨e,?_⟩;unfold Zk at e;rw[if_pos hm] at e;obtain⟨f,_,y⟩:=q7b _ _ e;refine⟨?_,f⟩;unfold Jm;rw[if_pos hm,y]
theorem q6r {N:Nd}(hm:N.may=true):(Bk.node N).good:=⟨λ_ _ f e=>(q5k hm f e).2.2,qof hm,λ_ _ f e=>(q5k hm f e).2.1⟩
def Pl.Xg (P:Pl)(N:Nd):Int:=if N.may=true then P.C.Uy else 0
def Pl.Jq (P:Pl)(N:Nd):Int:=if N.may=true then P.C.Uf else 1
def Pl.Zn (P:Pl)(N:Nd):Pl:=if N.may=true then P.lay (.node N) else P
end
section
open Go.ChangeMaps (setBlock)
theorem Ae {C:Ct}{a:Int}(h:C.get a≠0):∃n:Nat,a=(n:Int)/\n<C.n:=by
 have e:0<=a/\a<(C.n:Int):=Classical.byContradiction λh2=>h (by unfold Ct.get;rw[if_neg h2])
 exact⟨a.toNat,by omega,by omega⟩
end
structure Qi (b:Nat)(w:World)(d p:Nat)(S0 S T:Nat->Prop)(D:DM)(P:Pl):Prop where
 U8:Y9 w d S0 D
 pool:Pool w p d S T P
 sub:∀k,S0 k->T k
 apart:∀k,S0 k->¬S k
 tight:∀k,T k->b<=k/\k<w.heap.size
def Sys (b:Nat)(w:World)(d p:Nat)(T:Nat->Prop)(D:DM)(P:Pl):Prop:=∃e S,Qi b w d p e S T D P
def grow (T:Nat->Prop)(w w':World):Nat->Prop:=λk=>(T k\/w.1.size<=k)/\k<w'.1.size
def Dr (b:Nat)(w:World)(d:Nat)(T:Nat->Prop)(D:DM):Prop:=∃e,Y9 w d e D/\(∀k,e k->T k)/\∀k,T k->b<=k/\k<w.1.size
section
variable {b:Nat}{w w':World}{d p:Nat}{T:Nat->Prop}{D:DM}{P:Pl}
theorem Qi.Cj {S0 S:Nat->Prop}(H:Qi b w d p S0 S T D P):∀k,S k->T k:=by
 obtain⟨m,cur,l,clock,v,Sc,L⟩:=H.pool;exact L.sub
theorem Qi.base {S0 S:Nat->Prop}(H:Qi b w d p S0 S T D P):b<=w.1.size:=by
 obtain⟨m,cur,l,clock,v,Sc,L⟩:=H.pool;have:=(H.tight _ (L.sub _ L.Xu.1)).1;have:=L.Ie;omega
theorem Sys.below (H:Sys b w d p T D P)(hb:Below w.1.size w w'):Sys b w' d p T D P:=by
 obtain⟨f,S,H⟩:=H;exact⟨f,S,H.U8.below hb,H.pool.below hb,H.sub,H.apart,λk e=>⟨(H.tight k e).1,by have:=(H.tight k e).2;have:=hb.size;omega⟩⟩
theorem Sys.ok (H:Sys b w d p T D P):P.ok:=by
 obtain⟨e,S,H⟩:=H;exact H.pool.ok
theorem Sys.Qb (H:Sys b w d p T D P):Qb D.n:=by
 obtain⟨e,S,H⟩:=H;exact H.U8.Qb
theorem Sys.tight (H:Sys b w d p T D P):∀k,T k->b<=k/\k<w.1.size:=by
 obtain⟨e,S,H⟩:=H;exact H.tight
theorem Sys.base (H:Sys b w d p T D P):b<=w.1.size:=by
 obtain⟨e,S,H⟩:=H;exact H.base
theorem Dr.below (H:Dr b w d T D)(hb:Below w.1.size w w'):Dr b w' d T D:=by
 obtain⟨f,H,h1,h2⟩:=H;exact⟨f,H.below hb,h1,λk e=>⟨(h2 k e).1,by have:=(h2 k e).2;have:=hb.size;omega⟩⟩
theorem qxy {y w:World}{d p q:Nat}{f:Nat->Prop}{D:DM}{P:Pl}(H:Si y w p d q f D P)(u:∀k,f k->b<=k)(E:b<=y.1.size):Sys b w d p (λk=>b<=k/\k<w.1.size) D P:=by
 refine⟨λk=>(f k\/y.1.size<=k)/\k<q,λk=>q<=k/\k<w.1.size,H.U8,?_,λk e=>?_,λk e h=>?_,λk e=>e⟩
 ·have h:=H.pool (λk=>b<=k) (λk e=>by have:=H.ge.1;omega);exact h.mono (λk e h=>⟨h,e⟩) (λk e h=>h.1) λk e=>⟨by have:=H.ge.1;omega,e.2⟩
 ·have:=H.ge.2;exact⟨e.1.elim (u k) λh=>by omega,by omega⟩
 ·omega
end
theorem q93 {P:Pl}{a:Nat}{b:Bk}(h:P.live a=some b):P.C.get (a:Int)≠0/\P.L a=some b:=by
 unfold Pl.live at h;split at h
 ·cases h
 ·rename_i h0;exact⟨h0,h⟩
theorem qxz {n:Nat}(h:n<=2048):(Xt n).length<=30:=by
 rw[qnw];unfold Qe;omega
def shB:List UInt8:=[97,98]
def qoz (M:Nd)(E:Int)(w:World)(e:Ending)(w':World):Prop:=
 ∃y f c1 G u F,e=.returned (.tuple #[.agg #[.int .i64 M.lvl,.slice y f c1,.slice G u F],.int .i64 E])/\f<=20/\u<=20/\Zl w' y f c1 M.items/\Zm w' G u F M.kids/\Below w.1.size w w'
def q68 (M:Nd)(E:Int)(w:World)(e:Ending)(w':World):Prop:=
 ∃y f c1 G u F,e=.returned (.tuple #[.agg #[.int .i64 M.lvl,.slice y f c1,.slice G u F],.int .i64 E])/\f<=20/\u<=20/\J4 w' w.1.size y f c1 M.items/\Qs w' w.1.size 81 4 G u F (M.kids.map Ql.vs)/\Below w.1.size w w'
theorem q68.ans {M:Nd}{E:Int}{w:World}{e:Ending}{w':World}(h:q68 M E w e w'):qoz M E w e w':=by
 obtain⟨f,u,c1,G,y,F,h1,h2,K,J,I,H⟩:=h;exact⟨f,u,c1,G,y,F,h1,h2,K,J.Zq,I.Vs (by omega),H⟩
def Jh:Nd:=⟨0,[],[]⟩
def Xz (x:List UInt8)(a o:Int):Int:=if (Qz x a).isSome=true then 0 else o
def X0 (x:List UInt8)(a:Int):Nd:=(Qz x a).getD Jh
section
variable {w w':World}{b n c m d:Nat}{l:Int}{A B:Option Addr}
end
theorem qfw {w:World}{p:Nat}{a E o:Int}(I:E≠0)(f:∀u,Below w.1.size w u->Calls Tryz.prog 67 #[.pointer (some ⟨p,0,none⟩),.int .i64 a] u λe w'=>∃A n c,e=.returned (.tuple #[.slice A n c,.int .i64 o,.int .i64 E])/\Below u.1.size u w') :
  Calls Tryz.prog 35 #[.pointer (some ⟨p,0,none⟩),.int .i64 a] w λe w'=>q68 Jh E w e w':=by
 have X:(E==0)=false:=by simpa using I
 have H:NB (w.alloc (.cells #[.int .i64 0,.slice none 0 0,.slice none 0 0] 75)) w.1.size 0 none 0 0 none 0 0:=NB.new w _ _ _ _ _ _ _ _;have G:Below w.1.size w (w.alloc (.cells #[.int .i64 0,.slice none 0 0,.slice none 0 0] 75)):=Qm;have J:(w.alloc (.cells #[.int .i64 0,.slice none 0 0,.slice none 0 0] 75)).1.size=w.1.size+1:=by simp
 have y:=Lib.hid f;clear f;go_enter Tryz.func35,Tryz.ntmps35
 go_wp2_with fail
 generalize w.alloc (.cells #[.int .i64 0,.slice none 0 0,.slice none 0 0] 75)=w1 at G H J ⊢;refine (y.out w1 G).mono ?_;rintro e R ⟨A,n,c,rfl,F⟩;have M:=H.below F (by omega);go_wp2_with (first
  |(refine Gt rfl _ _ rfl w.1.size rfl 0 none 0 0 none 0 0 rfl M ?_;intro W K O)
  |fail)
 refine bodyPost_ret (q16 Tryz.results35 rfl (Ii K)) rfl ?_;have U:=F.size;exact⟨none,0,0,none,0,0,rfl,by omega,by omega,O8 _ _,q10 _ _ _ _,(G.trans (F.mono (by omega))).trans (O.below (λk Q=>by omega) (by omega))⟩
theorem qcd {w:World}{p:Nat}{a o:Int}{x:List UInt8}(ht:Tab w)(I:∀u,Below w.1.size w u->Calls Tryz.prog 67 #[.pointer (some ⟨p,0,none⟩),.int .i64 a] u λe w'=>∃A n c,e=.returned (.tuple #[.slice A n c,.int .i64 o,.int .i64 0])/\Sl w' A n c x/\Below u.1.size u w') :
  Calls Tryz.prog 35 #[.pointer (some ⟨p,0,none⟩),.int .i64 a] w λe w'=>q68 (X0 x a) (Xz x a o) w e w':=by
 have R1:NB (w.alloc (.cells #[.int .i64 0,.slice none 0 0,.slice none 0 0] 75)) w.1.size 0 none 0 0 none 0 0:=NB.new w _ _ _ _ _ _ _ _;have U:Below w.1.size w (w.alloc (.cells #[.int .i64 0,.slice none 0 0,.slice none 0 0] 75)):=Qm;have z1:(w.alloc (.cells #[.int .i64 0,.slice none 0 0,.slice none 0 0] 75)).1.size=w.1.size+1:=by simp
 have t1:=ht.below U ht.1;have K:=Lib.hid I;clear I
 cases J:Qz x a with
 |none=>
  have e1:X0 x a=Jh:=by unfold X0;rw[J];rfl
  have e2:Xz x a o=o:=by unfold Xz;rw[J];rfl
  rw[e1,e2];have f:=λ(A:Option Addr) (n c:Nat) (y:World) (R:Sl y A n c x) (O:Tab y)=>qfm A n c x a y R O
  unfold q2o at f;rw[J] at f;have W:=Lib.hid f;clear f J e1 e2;go_enter Tryz.func35,Tryz.ntmps35
  go_wp2_with fail
  generalize w.alloc (.cells #[.int .i64 0,.slice none 0 0,.slice none 0 0] 75)=w1 at U R1 z1 t1 ⊢;refine (K.out w1 U).mono ?_;rintro e y ⟨A,n,c,rfl,R,G⟩;have R2:=R1.below G (by omega);have O:=t1.below G t1.1;have z2:=G.size;go_wp2_with fail
  refine (W.out A n c y R O).mono ?_;rintro e F ⟨X,n1,c1,Y,Z,d1,rfl,a2,a1,hI,hK,Q⟩;have z3:=Q.size;have R3:=R2.below Q (by omega);have M:=U.trans ((G.trans (Q.mono z2)).mono (by omega));go_wp2_with (first
   |(refine Gt rfl (.tmp 4) (.tmp 29) rfl w.1.size rfl 0 none 0 0 none 0 0 rfl (R3.below (E:=F.1.size) (Qm) (by omega)) ?_;intro w5 R5 T5)
   |fail)
  refine bodyPost_ret (q16 Tryz.results35 rfl (Ii R5)) rfl ?_;have H:Below F.1.size F (F.alloc (.cells #[.int .i64 0,.slice X n1 c1,.slice Y Z d1] 75)):=Qm;exact⟨none,0,0,none,0,0,rfl,by omega,by omega,O8 _ _,q10 _ _ _ _,(M.trans (H.mono M.size)).trans (T5.below (λk hk=>by omega) (by have:=M.size;have:=H.size;omega))⟩
 |some N=>
  have e1:X0 x a=N:=by unfold X0;rw[J];rfl
  have e2:Xz x a o=0:=by unfold Xz;rw[J];rfl
  rw[e1,e2];have f:=λ(A:Option Addr) (n c:Nat) (y:World) (R:Sl y A n c x) (O:Tab y)=>qfm A n c x a y R O
  unfold q2o at f;rw[J] at f;have W:=Lib.hid f;clear f J e1 e2;go_enter Tryz.func35,Tryz.ntmps35
  go_wp2_with fail
  generalize w.alloc (.cells #[.int .i64 0,.slice none 0 0,.slice none 0 0] 75)=w1 at U R1 z1 t1 ⊢;refine (K.out w1 U).mono ?_;rintro e y ⟨A,n,c,rfl,R,G⟩;have R2:=R1.below G (by omega);have O:=t1.below G t1.1;have z2:=G.size;go_wp2_with fail
  refine (W.out A n c y R O).mono ?_;rintro e F ⟨X,n1,c1,Y,Z,d1,rfl,a2,a1,hI,hK,Q⟩;have hI:J4 F y.1.size X n1 c1 N.items:=hI;have hK:Qs F y.1.size 81 4 Y Z d1 (N.kids.map Ql.vs):=hK;have hl:((some N:Option Nd).getD ⟨0,[],[]⟩).lvl=N.lvl:=rfl;simp only[hl];have z3:=Q.size;have R3:=R2.below Q (by omega);have M:=U.trans ((G.trans (Q.mono z2)).mono (by omega));have H:Below F.1.size F (F.alloc (.cells #[.int .i64 N.lvl,.slice X n1 c1,.slice Y Z d1] 75)):=Qm;go_wp2_with (first
   |(refine Gt rfl (.tmp 4) (.tmp 31) rfl w.1.size rfl N.lvl X n1 c1 Y Z d1 rfl (R3.below H (by omega)) ?_;intro w5 R5 T5)
   |fail)
  refine bodyPost_ret (q16 Tryz.results35 rfl (Ii R5)) rfl ?_;exact⟨X,n1,c1,Y,Z,d1,rfl,a2,a1,((hI.below H).low T5 (λk hk=>by have h1:k=w.1.size:=hk;omega)).less (by omega),((hK.below H).turned T5 (λk hk e=>by have h1:=((hK.below H).Qa k hk).1;have h2:k=w.1.size:=e;omega)).less (by omega),(M.trans (H.mono M.size)).trans (T5.below (λk hk=>by omega) (by have:=M.size;have:=H.size;omega))⟩
def Pl.Zh (P:Pl)(D:DM)(a:Int):Int:=if P.C.get a=0 then 1 else match P.live a.toNat with
 |some (.node _)=>0
 |some (.bytes _ _)=>1
 |none=>if D.Ym a=0 then Xz (D.Yu a) a 5 else D.Ym a
def Pl.Qh (P:Pl)(D:DM)(a:Int):Nd:=if P.C.get a=0 then Jh else match P.live a.toNat with
 |some (.node N)=>N
 |some (.bytes _ _)=>Jh
 |none=>if D.Ym a=0 then X0 (D.Yu a) a else Jh
theorem q45 {N:Nd}(h:(Bk.node N).good):N.may=true:=by
 cases hm:N.may with
 |true=>rfl
 |false=>
  have h1:=h.len (a:=0) (g:=0) (by omega) q2f;have h2:(Bk.node N).out 0 0=[]:=by show Jm N _ _=[];unfold Jm;rw[if_neg (by rw[hm];decide)]
  rw[h2] at h1
  cases h1
theorem qt8 {N:Nd}(h:(Bk.node N).good){a:Nat}(f:a<=2047)(o:Int):X0 ((Bk.node N).out a 0) (a:Int)=N/\Xz ((Bk.node N).out a 0) (a:Int) o=0:=by
 have hm:=q45 h;have e:Qz ((Bk.node N).out a 0) (a:Int)=some N:=by
  show Qz (Jm N (a:Int) 0) (a:Int)=some N;rw[q7n hm (q5k hm f q2f).1,if_pos rfl]
 unfold X0 Xz;rw[e];exact⟨rfl,rfl⟩
theorem qp0 {k:Int}{l:List UInt8}(h:(Bk.bytes k l).good)(y:k=5\/k=6){a:Nat}(f:a<=2047)(o:Int):X0 ((Bk.bytes k l).out a 0) (a:Int)=Jh/\Xz ((Bk.bytes k l).out a 0) (a:Int) o=o:=by
 obtain⟨h1,h2,u⟩:=h.opens f q2f;have e:Qz ((Bk.bytes k l).out a 0) (a:Int)=none:=by
  unfold Qz;rw[if_pos u,h1];unfold Dh;split
  ·rw[if_neg];rintro⟨e,_⟩;have e:k=if ((Bk.bytes k l).hd a 0).level=0 then (3:Int) else 4:=e
   split at e<;>omega
  ·rfl
 unfold X0 Xz;rw[e];exact⟨rfl,rfl⟩
def Bk.kindOk (b:Bk):Prop:=match b with
 |.node _=>True
 |.bytes k l=>∃m,Ia k=some m/\l.length<=m
theorem qp1 {k:Int}{l:List UInt8}(P:Pl)(e:∀a b,P.L a=some b->b.kindOk){a:Nat}(h:P.live a=some (.bytes k l)):k=5\/k=6:=by
 obtain⟨m,hm,_⟩:=e a _ (q93 h).2;exact (qlx hm).1
theorem qa5 {w:World}{p d:Nat}{R S T:Nat->Prop}{D:DM}{P:Pl}(K:Y9 w d R D)(H:Pool w p d S T P)(Y:∀a b,P.L a=some b->b.kindOk)(M:Tab w)(a:Int) :
  Calls Tryz.prog 35 #[.pointer (some ⟨p,0,none⟩),.int .i64 a] w λe w'=>q68 (P.Qh D a) (P.Zh D a) w e w':=by
 by_cases h0:P.C.get a=0
 ·have G:P.Zh D a=1:=if_pos h0;have I:P.Qh D a=Jh:=if_pos h0;rw[G,I];exact qfw (o:=0) (by omega) λu y=>(qt4 (H.below y) a h0).mono λe w' h=>⟨_,_,_,h.1,by rw[<-h.2];exact Below.refl _ _⟩
 ·obtain⟨n,rfl,hn⟩:=Ae h0;have F:n<=2047:=by have:=H.ok.c.1;omega
  have Q:P.Zh D (n:Int)=match P.live n with
    |some (.node _)=>0
    |some (.bytes _ _)=>1
    |none=>if D.Ym (n:Int)=0 then Xz (D.Yu (n:Int)) (n:Int) 5 else D.Ym (n:Int):=by unfold Pl.Zh;rw[if_neg h0,Int.toNat_natCast]
  have U:P.Qh D (n:Int)=match P.live n with
    |some (.node N)=>N
    |some (.bytes _ _)=>Jh
    |none=>if D.Ym (n:Int)=0 then X0 (D.Yu (n:Int)) (n:Int) else Jh:=by unfold Pl.Qh;rw[if_neg h0,Int.toNat_natCast]
  rw[Q,U]
  cases E:P.live n with
  |some b=>
   have O:b.good:=by
    obtain⟨m,cur,l,clock,v,Sc,L⟩:=H;exact L.good n b (q93 E).2
   have f:=qcd (w:=w) (p:=p) (a:=(n:Int)) (o:=1) (x:=b.out n 0) M λu y=>qm5 (H.below y) n b E
   cases b with
   |node N=>
    obtain⟨G,I⟩:=qt8 O F 1;rw[G,I] at f;exact f
   |bytes k l=>
    obtain⟨G,I⟩:=qp0 O (qp1 P Y E) F 1;rw[G,I] at f;exact f
  |none=>
   by_cases f:D.Ym (n:Int)=0
   ·have X:=qcd (w:=w) (p:=p) (a:=(n:Int)) (o:=5) (x:=D.Yu (n:Int)) M λu y=>by
     have J:=qa1 (K.below y) (H.below y) n h0 E;rw[f] at J;exact J
    simp only[if_pos f];exact X
   ·simp only[if_neg f];exact qfw (o:=5) f λu y=>(qa1 (K.below y) (H.below y) n h0 E).mono λe w' h=>by
     obtain⟨A,m,c,W,_,J⟩:=h;exact⟨A,m,c,W,J⟩
theorem qp2 {w:World}{p d:Nat}{y S T:Nat->Prop}{D:DM}{P:Pl}(f:Y9 w d y D)(H:Pool w p d S T P)(E:∀a b,P.L a=some b->b.kindOk)(u:Tab w)(a:Int) :
  Calls Tryz.prog 35 #[.pointer (some ⟨p,0,none⟩),.int .i64 a] w λe w'=>qoz (P.Qh D a) (P.Zh D a) w e w':=(qa5 f H E u a).mono λ_ _ h=>h.ans
def Pl.store (P:Pl)(D:DM):Int->Nd × Int:=λa=>(P.Qh D a,P.Zh D a)
theorem q6s {P:Pl}{c:Nat}(h:P.C.pick=some c){N:Nd}(e:N.may=true):P.Xg N=(c:Int)/\P.Jq N=0/\P.Zn N=P.lay (.node N):=by
 obtain⟨u,f,_⟩:=Ct.Xv h;unfold Pl.Xg Pl.Jq Pl.Zn;rw[if_pos e,if_pos e,if_pos e];exact⟨f,u,rfl⟩
theorem q4q {P:Pl}{D:DM}{a:Int}(h:(P.store D a).2=0):∃n:Nat,a=(n:Int)/\n<P.C.n/\P.C.get (n:Int)≠0:=by
 have h0:P.C.get a≠0:=λe=>by
  have h:P.Zh D a=0:=h;unfold Pl.Zh at h;rw[if_pos e] at h
  cases h
 obtain⟨n,rfl,hn⟩:=Ae h0;exact⟨n,rfl,hn,h0⟩
theorem qp3 {P:Pl}{D:DM}{c:Nat}(h:P.C.pick=some c){N:Nd}(G:N.may=true)(a:Int)(F:(P.store D a).2=0):(P.Zn N).store D a=P.store D a:=by
 obtain⟨n,rfl,hn,h0⟩:=q4q F;obtain⟨H,_,E,_,_⟩:=Ct.Xk h;have f:n≠c:=λe=>h0 (by
  subst e;unfold Ct.get;rw[if_pos (by omega),Int.toNat_natCast];exact E)
 have u:=qdm h (.node N) n hn;have y:=qfc h (.node N) n;rw[if_neg f] at u y;rw[(q6s h G).2.2];unfold Pl.store Pl.Qh Pl.Zh Pl.live;rw[Int.toNat_natCast,u,y]
theorem qa6 {P:Pl}(D:DM){c:Nat}(h:P.C.pick=some c){N:Nd}(y:N.may=true):(P.Zn N).store D (c:Int)=(N,0):=by
 obtain⟨u,_⟩:=Ct.Xk h;have e:=qdm h (.node N) c u;have f:=qfc h (.node N) c;rw[if_pos rfl] at e f;rw[(q6s h y).2.2];unfold Pl.store Pl.Qh Pl.Zh Pl.live;rw[Int.toNat_natCast,e,f];rfl
def Pl.Yx (P:Pl):List Nd->Pl
 |[]=>P
 |N::r=>(P.Zn N).Yx r
def Pl.Bh (P:Pl):List Nd->List Int
 |[]=>[]
 |N::r=>P.Xg N::(P.Zn N).Bh r
theorem qfx:∀(e:List Nd) (P:Pl),(P.Bh e).length=e.length
 |[],_=>rfl
 |N::r,P=>by
  show (_::_).length=_;rw[List.length_cons,qfx r,List.length_cons]
theorem qa7 {N:Nd}(e:N.may=true):(Bk.node N).fine:=(q6r e).fine
theorem qe1 (D:DM):∀(f:List Nd) (P:Pl),P.ok->(∀N∈f,N.may=true)->f.length<=P.C.free->
  (∀j,j<f.length->∃N c,f[j]?=some N/\(P.Bh f)[j]?=some ((c:Nat):Int)/\(P.Yx f).store D (c:Int)=(N,0)/\P.C.first<=c/\c<P.C.n)/\
  (∀a,(P.store D a).2=0->(P.Yx f).store D a=P.store D a)/\(P.Yx f).C.free+f.length=P.C.free/\(P.Yx f).ok/\(P.Yx f).C.n=P.C.n/\(P.Yx f).S=P.S
 |[],P,hok,_,_=>⟨λj H=>absurd H (Nat.not_lt_zero _),λ_ _=>rfl,rfl,hok,rfl,rfl⟩
 |N::r,P,hok,hm,hf=>by
  have E:=hm N (List.mem_cons_self ..);rw[List.length_cons] at hf;obtain⟨c,u⟩:=Ct.Ul (C:=P.C) (by omega);obtain⟨v1,v2,v3⟩:=q6s u E;obtain⟨Q,X,_⟩:=Ct.Xk u;have a1:=Ct.Uz u;have K:(P.Zn N).C=P.C.alloc:=by rw[v3,q37 u]
  have F:(P.Zn N).ok:=by rw[v3];exact qo0 hok (qa7 E)
  have y:(P.Zn N).C.n=P.C.n:=by rw[v3];exact qo1 _
  have G:(P.Zn N).S=P.S:=by rw[v3];exact qvw _
  have I:(P.Zn N).C.first=P.C.first:=by unfold Ct.first;rw[y]
  obtain⟨h1,h2,h3,h4,Z,R⟩:=qe1 D r (P.Zn N) F (λM hM=>hm M (List.mem_cons_of_mem _ hM)) (by rw[K];omega);refine⟨λj H=>?_,λa J=>?_,?_,h4,Z.trans y,R.trans G⟩
  ·match j with
   |0=>
    refine⟨N,c,rfl,?_,?_,X,Q⟩
    ·show some (P.Xg N)=_;rw[v1]
    ·show ((P.Zn N).Yx r).store D (c:Int)=(N,0);rw[h2 _ (by rw[qa6 D u E])];exact qa6 D u E
   |j+1=>
    obtain⟨M,e,k1,k2,W,Y,U⟩:=h1 j (by simpa using H);exact⟨M,e,by rw[List.getElem?_cons_succ];exact k1,by show ((P.Xg N)::(P.Zn N).Bh r)[j+1]?=_;rw[List.getElem?_cons_succ];exact k2,W,by rw[<-I];exact Y,by rw[<-y];exact U⟩
  ·have O:=qp3 u E a J;show ((P.Zn N).Yx r).store D a=_;rw[h2 a (by rw[O];exact J),O]
  ·show ((P.Zn N).Yx r).C.free+(r.length+1)=_;rw[K] at h3;omega
def Bv:Pl->List Nd->List Ql
 |_,[]=>[]
 |P,N::r=>⟨N.least,P.Xg N⟩::Bv (P.Zn N) r
theorem q6t:∀(e:List Nd) (P:Pl),(Bv P e).length=e.length
 |[],_=>rfl
 |N::r,P=>by show (_::_).length=_;rw[List.length_cons,q6t r,List.length_cons]
theorem qfy:∀(e:List Nd) (P:Pl) (j:Nat) (N:Nd) (a:Int),e[j]?=some N->(P.Bh e)[j]?=some a->(Bv P e)[j]?=some ⟨N.least,a⟩
 |[],_,j,N,a,h,_=>by cases h
 |M::r,P,0,N,a,h,k=>by
  have u:M=N:=Option.some.inj h;have f:P.Xg M=a:=Option.some.inj k;show some _=_;rw[u] at f ⊢;rw[f]
 |M::r,P,j+1,N,a,h,k=>qfy r (P.Zn M) j N a (by simpa using h) (by have k:(P.Xg M::(P.Zn M).Bh r)[j+1]?=some a:=k;simpa using k)
theorem qa8 {p:List Qc}(h:p≠[]):(⟨0,p,[]⟩:Nd).least=(Qj p 0).k:=by
 have e:0<p.length:=List.length_pos_iff.2 h;unfold Nd.least;rw[q1u,List.length_map,if_neg (by omega),q18 p e]
theorem q7r (l:Int){q:List Ql}(h:q≠[]):(⟨l,[],q⟩:Nd).least=(Qg q 0).k:=by
 have e:0<q.length:=List.length_pos_iff.2 h;unfold Nd.least;rw[q4n,List.length_map,if_neg (by omega),q4o q e]
theorem qva {α β:Type}{l:List α}{r:List β}{j:Nat}{a:α}{b:β}(h1:l[j]?=some a)(h2:r[j]?=some b):(l.zip r)[j]?=some (a,b):=List.getElem?_zip_eq_some.2 ⟨h1,h2⟩
theorem qp4 (C:Ct):2<=C.first:=by unfold Ct.first;omega
structure Qa5 (l:Nat)(R:Int->Nd × Int)(Ns:List Nd)(rows:List (List Qc)):Prop where
 len:rows.length=Ns.length
 may:∀N∈Ns,N.may=true
 holds:∀(j:Nat) (N:Nd) (p:List Qc),Ns[j]?=some N->rows[j]?=some p->N.least=(Qj p 0).k/\∀(R':Int->Nd × Int) (a:Int),(∀b,(R b).2=0->R' b=R b)->R' a=(N,0)->Qp R' l a p
theorem qce {D:DM}{P:Pl}{l:Nat}{Ns:List Nd}{rows:List (List Qc)}(H:Qa5 l (P.store D) Ns rows)(f:P.ok)(O:Ns.length<=P.C.free) :
  ∃G:List Zw,Bv P Ns=G.map Qn/\G.map (·.2)=rows/\∀x∈G,Qp ((P.Yx Ns).store D) l x.1 x.2/\1<=x.1/\x.1<2048:=by
 obtain⟨h1,h2,_⟩:=qe1 D Ns P f H.may O;have X:=H.len;have W:=qfx Ns P;have hn:=f.c.1.2;have R:=qp4 P.C;refine⟨(P.Bh Ns).zip rows,?_,?_,?_⟩
 ·apply List.ext_getElem?
  intro j;by_cases F:j<Ns.length
  ·obtain⟨N,c,y,E,J,M,Q⟩:=h1 j F;have u:rows[j]?=some rows[j]:=List.getElem?_eq_getElem (by omega);rw[qfy Ns P j N _ y E,List.getElem?_map,qva E u,(H.holds j N _ y u).1];rfl
  ·rw[List.getElem?_eq_none (by rw[q6t];omega),List.getElem?_eq_none (by rw[List.length_map,List.length_zip];omega)]
 ·exact List.map_snd_zip (by omega)
 ·intro x U;obtain⟨j,F,e⟩:=List.getElem_of_mem U;rw[List.length_zip] at F;have I:j<Ns.length:=by omega
  obtain⟨N,c,y,E,J,M,Q⟩:=h1 j I;have u:rows[j]?=some rows[j]:=List.getElem?_eq_getElem (by omega);have K:=qva E u;rw[List.getElem?_eq_getElem (by rw[List.length_zip];exact F),e] at K;obtain rfl:=Option.some.inj K;exact⟨(H.holds j N _ y u).2 _ _ h2 J,by show (1:Int)<=(c:Int);omega,by show (c:Int)<2048;omega⟩
def U2 (cuts:List Int)(e:Nat)(ks:List Ql):List Nd:=(Xn 6 12 cuts ks.length 0 ks).map λp=>⟨(e:Int),[],p⟩
theorem qfz {Gs:List (List Zw)}{j:Nat}{q:List Zw}(h:Gs[j]?=some q)(f:Qd (rowOf Gs.flatten)):Qd (rowOf q):=by
 rw[q6m] at f;have e:=q3j f j;rw[List.getD_eq_getElem?_getD,List.getElem?_map,h] at e;exact e
theorem qa9 {G:List Zw}{x:Qc}:x∈rowOf G↔∃t∈G,x∈t.2:=by
 unfold rowOf;rw[List.mem_flatten];constructor
 ·rintro⟨r,u,f⟩;obtain⟨t,e,rfl⟩:=List.mem_map.1 u;exact⟨t,e,f⟩
 ·rintro⟨t,e,f⟩;exact⟨_,List.mem_map_of_mem e,f⟩
theorem qm9 (cuts:List Int){R:Int->Nd × Int}{l:Nat}(hl:l<7){G:List Zw}(Y:∀x∈G,Qp R l x.1 x.2/\1<=x.1/\x.1<2048)(h2:2<=G.length)(hr:Qd (rowOf G))(hk:∀x∈rowOf G,x.k.may=true) :
  Qa5 (l+1) R (U2 cuts (l+1) (G.map Qn)) ((Xn 6 12 cuts G.length 0 G).map rowOf)/\(U2 cuts (l+1) (G.map Qn)).length*6<=G.length+6/\1<=(U2 cuts (l+1) (G.map Qn)).length/\(1<(U2 cuts (l+1) (G.map Qn)).length->12<G.length)/\((Xn 6 12 cuts G.length 0 G).map rowOf).flatten=rowOf G:=by
 have O:U2 cuts (l+1) (G.map Qn)=(Xn 6 12 cuts G.length 0 G).map λq=>⟨((l+1:Nat):Int),[],q.map Qn⟩:=by
  unfold U2;rw[qfj,List.length_map,List.map_map];rfl
 obtain⟨n1,n2,n3⟩:=qfi (lo:=6) (hi:=12) cuts (by omega) (by omega) G.length 0 G;have H:=q6l 6 12 cuts G.length 0 G;have Z:=q9r (lo:=6) (hi:=12) cuts (by omega) (by omega) (by omega) G.length 0 G (by omega);have f:∀q∈Xn 6 12 cuts G.length 0 G,∀x∈q,x∈G:=λq u x E=>by
  rw[<-H,List.mem_flatten];exact⟨q,u,E⟩
 have I:∀q∈Xn 6 12 cuts G.length 0 G,2<=q.length:=λq u=>by
  rcases (Z q u).2 with h|h
  ·omega
  ·rw[h];exact h2
 have J:∀x∈G,x.2≠[]:=λx E e=>by
  obtain⟨y,r,K⟩:=q39 (Y x E).1;rw[e] at K
  cases K
 rw[O,List.length_map];refine⟨⟨by rw[List.length_map,List.length_map],λN O=>?_,λj N p X K=>?_⟩,n1,n2,n3,by rw[<-q6m,H]⟩
 ·obtain⟨q,u,rfl⟩:=List.mem_map.1 O;obtain⟨j,hj,e⟩:=List.getElem_of_mem u;have W:Qd (rowOf q):=qfz (Gs:=Xn 6 12 cuts G.length 0 G) (j:=j) (by rw[List.getElem?_eq_getElem hj,e]) (by rw[H];exact hr);refine qfk hl (I q u) (Z q u).1 W (λx E=>hk x ?_) (λx E=>(Y x (f q u x E)).2) λx E=>J x (f q u x E)
  obtain⟨t,M,Q⟩:=qa9.1 E;exact qa9.2 ⟨t,f q u t M,Q⟩
 ·rw[List.getElem?_map] at X K;obtain⟨q,u,rfl⟩:=Option.map_eq_some_iff.1 K;rw[u] at X;obtain rfl:=Option.some.inj X;have F:=List.mem_of_getElem? u;have U:2<=q.length:=I q F;match q,U,F with
  |t::r,_,F=>
   have M:=f _ F t (List.mem_cons_self ..);refine⟨?_,λR' a hR h=>?_⟩
   ·rw[q7r _ (by simp)];match e:t.2,J t M with
    |y::s,_=>
     have e3:rowOf (t::r)=y::(s++rowOf r):=by
      unfold rowOf;rw[List.map_cons,List.flatten_cons,e,List.cons_append]
     rw[e3];show (Qj t.2 0).k=y.k;rw[e];rfl
   ·exact q9s (λx E=>P9 hR (Y x (f _ F x E)).1) (by simp) h
structure Grew (P P':Pl)(D:DM)(root:Int)(its:List Qc):Prop where
 tree:∃l,l<=6/\Qp (P'.store D) l root its
 ok:P'.ok
 n:P'.C.n=P.C.n
 S:P'.S=P.S
 free:10<=P'.C.free
 old:∀a,(P.store D a).2=0->P'.store D a=P.store D a
 lo:1<=root/\root<2048
theorem q7s {P:Pl}{D:DM}{n:Nat}(h0:P.C.get (n:Int)≠0)(f:P.live n=none)(e:D.Ym (n:Int)=0):P.store D (n:Int)=(X0 (D.Yu (n:Int)) (n:Int),Xz (D.Yu (n:Int)) (n:Int) 5):=by
 unfold Pl.store Pl.Qh Pl.Zh;rw[if_neg h0,if_neg h0,Int.toNat_natCast,f];dsimp only;rw[if_pos e,if_pos e]
theorem qcf {P:Pl}{D:DM}{n:Nat}(h0:P.C.get (n:Int)≠0){b:Bk}(f:P.live n=some b)(e:(P.store D (n:Int)).2=0):∃N,b=.node N/\P.store D (n:Int)=(N,0):=by
 cases b with
 |node N=>
  refine⟨N,rfl,?_⟩;unfold Pl.store Pl.Qh Pl.Zh;rw[if_neg h0,if_neg h0,Int.toNat_natCast,f]
 |bytes k l=>
  have e:P.Zh D (n:Int)=0:=e;unfold Pl.Zh at e;rw[if_neg h0,Int.toNat_natCast,f] at e;have e:(1:Int)=0:=e;omega
section
open Go.ChangeMaps (setBlock)
def isNode:Option Bk->Bool
 |some (.node _)=>true
 |_=>false
def Pl.Ee (P:Pl)(a:Int)(N:Nd):Bool:=N.may&&(P.C.fresh a&&isNode (P.L a.toNat))
def Pl.Gw (P:Pl)(a:Int)(N:Nd):Int:=if P.Ee a N=true then 0 else 1
def Pl.Vq (P:Pl)(a:Int)(N:Nd):Pl:=if P.Ee a N=true then ⟨P.S,P.C,upd P.L a.toNat (some (.node N))⟩ else P
theorem q31 {C:Ct}{a:Int}(h:C.fresh a=true):C.get a≠0:=λh0=>by
 unfold Ct.fresh at h;rw[if_pos h0] at h
 cases h
def bkE:Bk->Int
 |.node _=>0
 |.bytes _ _=>1
theorem qju {P:Pl}(D:DM){k:Nat}(h0:P.C.get (k:Int)≠0){b:Bk}(h:P.live k=some b):P.Zh D (k:Int)=bkE b:=by
 unfold Pl.Zh;rw[if_neg h0,Int.toNat_natCast,h]
 cases b<;>rfl
theorem qma {w0 w:World}{p d:Nat}{S0 S T:Nat->Prop}{D:DM}{P:Pl}(L0:Y9 w d S0 D)(H:Pool w p d S T P)(d4:∀a b,P.L a=some b->b.kindOk)(d2:∀a:Nat,P.C.fresh (a:Int)=true->∃b,P.L a=some b)(hT:∀k,T k->k<w.1.size)(B0:Below w0.1.size w0 w)(a:Int)(N:Nd)(A:Option Addr)(n c:Nat)(B:Option Addr)(F G:Nat)(hI:Zl w0 A n c N.items)(hK:Zm w0 B F G N.kids)(hn:n<=1000)(hm:F<=1000)(ht:Tab w) :
  Calls Tryz.prog 145 #[.pointer (some ⟨p,0,none⟩),.int .i64 a,.agg #[.int .i64 N.lvl,.slice A n c,.slice B F G]] w λe w'=>e=.returned (.int .i64 (P.Gw a N))/\Pool w' p d S T (P.Vq a N)/\Turn S w w':=by
 have Q:=H.ok;have N1:NB (w.alloc (.cells #[.int .i64 N.lvl,.slice A n c,.slice B F G] 75)) w.1.size N.lvl A n c B F G:=NB.new w _ _ _ _ _ _ _ _;have X:Below w.1.size w (w.alloc (.cells #[.int .i64 N.lvl,.slice A n c,.slice B F G] 75)):=Qm;have z1:(w.alloc (.cells #[.int .i64 N.lvl,.slice A n c,.slice B F G] 75)).1.size=w.1.size+1:=by simp
 obtain⟨r,hr⟩:∃r,N.may=r:=⟨_,rfl⟩;obtain⟨f,hf⟩:∃f,P.C.fresh a=f:=⟨_,rfl⟩;have a1:=Lib.hid (λw (hw:Below w0.1.size w0 w)=>q2l N r hr A n c B F G w (hI.below hw) (hK.below hw) hn hm);have b3:=Lib.hid (λ(w1:World) (H1:Pool w1 p d S T P)=>q7q H1 a f hf);have c0:=N1.c0;have c1:=N1.c1;have c2:=N1.c2;have t1:=ht.below X ht.1;have H1:=H.below X;have B1:=B0.trans (X.mono B0.size);have hE:P.Gw a N=if (r&&(f&&isNode (P.L a.toNat)))=true then 0 else 1:=by unfold Pl.Gw Pl.Ee;rw[hr,hf]
 have hP:P.Vq a N=if (r&&(f&&isNode (P.L a.toNat)))=true then ⟨P.S,P.C,upd P.L a.toNat (some (.node N))⟩ else P:=by unfold Pl.Vq Pl.Ee;rw[hr,hf]
 rw[hE,hP];clear hE hP
 cases r with
 |false=>
  clear hf hr;go_enter Tryz.func145,Tryz.ntmps145
  go_wp2_with fail
  generalize w.alloc (.cells #[.int .i64 N.lvl,.slice A n c,.slice B F G] 75)=w1 at X N1 z1 c0 c1 c2 t1 H1 B1 ⊢;refine (a1.out w1 B1).mono ?_;rintro e w2 ⟨rfl,b2⟩;have I:=X.trans (b2.mono (by omega));go_wp2;go_ret;exact⟨rfl,H.below I,Qv I⟩
 |true=>
  cases f with
  |false=>
   clear hf hr;go_enter Tryz.func145,Tryz.ntmps145
   go_wp2_with fail
   generalize w.alloc (.cells #[.int .i64 N.lvl,.slice A n c,.slice B F G] 75)=w1 at X N1 z1 c0 c1 c2 t1 H1 B1 ⊢;refine (a1.out w1 B1).mono ?_;rintro e w2 ⟨rfl,b2⟩;have I:=X.trans (b2.mono (by omega));have H2:=H.below I;go_wp2_with fail
   refine (b3.out w2 H2).mono ?_;rintro e u ⟨rfl,rfl⟩;go_wp2;go_ret;exact⟨rfl,H2,Qv I⟩
  |true=>
   have R:=q31 hf;obtain⟨k,rfl,hk⟩:=Ae R;rw[Int.toNat_natCast];have b8:k<=2047:=by have:=Q.c.1;omega
   obtain⟨b,K⟩:=d2 k hf;have a2:P.live k=some b:=by unfold Pl.live;rw[if_neg R];exact K
   have b0:=qju D R a2;have O:=λ(w2:World) (bb:Below w.1.size w w2)=>qp2 (L0.below bb) (H.below bb) d4 (ht.below bb ht.1) (k:Int)
   rw[b0] at O;obtain⟨M0,b7⟩:∃M0,P.Qh D (k:Int)=M0:=⟨_,rfl⟩;rw[b7] at O
   cases b with
   |bytes kk l=>
    rw[K];have b6:=Lib.hid O;clear hf hr O b0 b7 a2 K R;show Calls _ _ _ _ λe w'=>e=.returned (.int .i64 1)/\Pool w' p d S T P/\Turn S w w'
    go_enter Tryz.func145,Tryz.ntmps145
    go_wp2_with fail
    generalize w.alloc (.cells #[.int .i64 N.lvl,.slice A n c,.slice B F G] 75)=w1 at X N1 z1 c0 c1 c2 t1 H1 B1 ⊢;refine (a1.out w1 B1).mono ?_;rintro e w2 ⟨rfl,b2⟩;have I:=X.trans (b2.mono (by omega));have H2:=H.below I;go_wp2_with fail
    refine (b3.out w2 H2).mono ?_;rintro e u ⟨rfl,rfl⟩;go_wp2_with fail
    refine (b6.out w2 I).mono ?_;rintro e E ⟨A1,n1,q1,a8,m1,d1,rfl,_,_,_,_,b4⟩;have b5:Below E.1.size E (E.alloc (.cells #[.int .i64 0,.slice none 0 0,.slice none 0 0] 75)):=Qm;have R5:NB (E.alloc (.cells #[.int .i64 0,.slice none 0 0,.slice none 0 0] 75)) E.1.size 0 none 0 0 none 0 0:=NB.new E _ _ _ _ _ _ _ _;go_wp2_with (first
     |(refine Gt rfl _ _ rfl E.1.size rfl M0.lvl A1 n1 q1 a8 m1 d1 rfl R5 ?_;intro w6 R6 T6)
     |fail)
    go_ret;have B4:=I.trans (b4.mono I.size);have B6:Below w.1.size w w6:=(B4.trans (b5.mono B4.size)).trans (T6.below (λk hk=>by have:=B4.size;omega) (by have h1:=B4.size;have h2:=b5.size;omega));exact⟨rfl,H.below B6,Qv B6⟩
   |node M=>
    rw[K];have b6:=Lib.hid O;obtain⟨b9,d7,_⟩:=q5k hr b8 q2f;have c7:=q6r hr;have U:=c7.len (a:=k) (g:=0) b8 q2f;have c6:(Bk.node N).out k 0=Jm N (k:Int) 0:=rfl;rw[c6] at U;have e3:=Lib.hid b9;have e5:=Lib.hid U;have J:∀c:Nat,Pl.live ⟨P.S,P.C,upd P.L k (some (.node N))⟩ c=if c=k then some (.node N) else P.live c:=λc=>by
     unfold Pl.live;by_cases e:c=k
     ·subst e;rw[if_pos rfl,if_neg R];exact Aw _ _ _
     ·rw[if_neg e];show (if _ then _ else upd P.L k _ c)=_;rw[Ar _ _ e]
    have y:∀c x,(upd P.L k (some (.node N))) c=some x->x.good:=λc x h=>by
     by_cases e:c=k
     ·subst e;rw[Aw] at h;injection h with h;rw[<-h];exact c7
     ·rw[Ar _ _ e] at h;obtain⟨m,cur,l,clock,v,Sc,L⟩:=H;exact L.good c x h
    have a7:Pl.ok ⟨P.S,P.C,upd P.L k (some (.node N))⟩:=⟨Q.c,Q.res,Q.may,Q.sec,Q.gen,λc x h=>(y c x h).fine⟩;have d8:=Lib.hid J;have e4:=Lib.hid y;have c8:=Lib.hid a7;obtain⟨m,cur,l,clock,v,Sc,L⟩:=H;have Y:¬Zf (k:Int) l=none:=by rw[L.look k,a2];exact λh=>nomatch h
    have W:=Lib.hid Y;have e9:=L.Ie;have e8:=L.mlt;clear hf hr O b0 b7 a2 K R b9 d7 U c6 J y a7 Y;show Calls _ _ _ _ λe w'=>e=.returned (.int .i64 0)/\Pool w' p d S T ⟨P.S,P.C,upd P.L k (some (.node N))⟩/\Turn S w w'
    go_enter Tryz.func145,Tryz.ntmps145
    go_wp2_with fail
    generalize w.alloc (.cells #[.int .i64 N.lvl,.slice A n c,.slice B F G] 75)=w1 at X N1 z1 c0 c1 c2 t1 H1 B1 ⊢;refine (a1.out w1 B1).mono ?_;rintro e w2 ⟨rfl,b2⟩;have I:=X.trans (b2.mono (by omega));have H2:=H1.below b2;go_wp2_with fail
    refine (b3.out w2 H2).mono ?_;rintro e e7 ⟨rfl,rfl⟩;go_wp2_with fail
    refine (b6.out w2 I).mono ?_;rintro e E ⟨A1,n1,q1,a8,m1,d1,rfl,_,_,_,_,b4⟩;have b5:Below E.1.size E (E.alloc (.cells #[.int .i64 0,.slice none 0 0,.slice none 0 0] 75)):=Qm;have R5:NB (E.alloc (.cells #[.int .i64 0,.slice none 0 0,.slice none 0 0] 75)) E.1.size 0 none 0 0 none 0 0:=NB.new E _ _ _ _ _ _ _ _;have B4:=I.trans (b4.mono I.size);go_wp2_with (first
     |(refine Gt rfl _ _ rfl E.1.size rfl M0.lvl A1 n1 q1 a8 m1 d1 rfl R5 ?_;intro u R6 T6;have e6:(bkE (.node M)!=0)=false:=rfl)
     |fail)
    have B3:Below w.1.size w u:=(B4.trans (b5.mono B4.size)).trans (T6.below (λk hk=>by have:=B4.size;omega) (by have h1:=B4.size;have h2:=b5.size;omega));have z2:=b2.size;have z3:=B3.size;have N3:NB u w.1.size N.lvl A n c B F G:=by
     have N2:=N1.below b2 (by omega);have N4:=N2.below b4 N2.lt;have N5:=N4.below b5 N4.lt;have e0:=N5.lt;obtain⟨t,h⟩:=N5;exact⟨t,(T6.block w.1.size e0 (by have:=N4.lt;omega)).trans h⟩
    have L3:=L.below B3;have d0:=L3.c40;have t3:Tab u:=ht.below B3 ht.1;have d3:w.1.size≠m:=λe=>by have h1:=hT m (L.sub _ L.Xu.2.1);omega
    have hF:∀w',Below u.1.size u w'->w'.cell? ⟨p,40,none⟩=some (.map (some m))/\w'.cell? ⟨w.1.size,0,none⟩=some (.int .i64 N.lvl)/\w'.cell? ⟨w.1.size,1,none⟩=some (.slice A n c)/\w'.cell? ⟨w.1.size,2,none⟩=some (.slice B F G):=λw' K=>
     have N':=N3.below K N3.lt;⟨(K.cell (p:=⟨p,40,none⟩) (by show p<_;omega)).trans d0,N'.c0,N'.c1,N'.c2⟩
    have d9:∀w' (o:Obj),Below u.1.size u w'->(setBlock w' m o).cell? ⟨p,40,none⟩=some (.map (some m))/\(setBlock w' m o).cell? ⟨w.1.size,0,none⟩=some (.int .i64 N.lvl)/\(setBlock w' m o).cell? ⟨w.1.size,1,none⟩=some (.slice A n c)/\(setBlock w' m o).cell? ⟨w.1.size,2,none⟩=some (.slice B F G):=λw' o K=>by
     have hz:=K.size;have f0:=N3.lt;have TB:Turn (λk=>k=m) w' (setBlock w' m o):=q0p _ rfl;obtain⟨h1,h2,h3,h4⟩:=hF w' K;have e1:=TB.block p (by omega) L.p_m;have e2:=TB.block w.1.size (by omega) d3;exact⟨(World.cell?_of_block (a:=⟨p,40,none⟩) e1).trans h1,(World.cell?_of_block (a:=⟨w.1.size,0,none⟩) e2).trans h2,(World.cell?_of_block (a:=⟨w.1.size,1,none⟩) e2).trans h3,(World.cell?_of_block (a:=⟨w.1.size,2,none⟩) e2).trans h4⟩
    have BD:Below u.1.size u u.drew:=(Below.refl _ _).drew;have d5:=Lib.hid (λ(w':World) (K:Below u.1.size u w') (v':Value)=>(congrArg (λz:Nat=>Result.ok () (setBlock w' m (.map (Jy (k:Int) v' clock l).toArray z))) (if_neg W.out)).subst (motive:=λr=>(Instr.mapUpdate 101 (.map (some m)) (.int .i64 (k:Int)) v').run Tryz.prog w'=r) (q2u L.ents Tryz.underlying101 Tryz.underlying3 ((K.block m (by omega)).trans L3.map) (k:Int) v'));have BI:=B0.trans ((B3.trans (BD.mono B3.size)).mono B0.size);clear c0 c1 c2 H1 H2 R6 R5;go_wp2_with fail
    go_region_held3 (λw'=>w'.cell? ⟨p,40,none⟩=some (.map (some m))/\w'.cell? ⟨w.1.size,0,none⟩=some (.int .i64 N.lvl)/\w'.cell? ⟨w.1.size,1,none⟩=some (.slice A n c)/\w'.cell? ⟨w.1.size,2,none⟩=some (.slice B F G))
     (first|assumption|exact hF _ BD|exact hF _ a6|exact d9 _ _ a6)
     (first
      |(go_at_call 168;refine (qcc N (k:Int) 0 A n c B F G _ (hI.below BI) (hK.below BI) hn hm (t3.below BD t3.1)).mono ?_;rw[e3.out];rintro e E ⟨A3,n3,c3,rfl,Z,c9,d6⟩;have a6:Below u.1.size u E:=BD.trans d6;have f1:=d5.out E a6)
      |fail)
    obtain⟨q,rfl,rfl,rfl⟩:=c9 (by first|trivial|rfl);have hq:=(Z.block ⟨q,0,none⟩ rfl).1;obtain⟨R1,R2⟩:=L3.store (P':=⟨P.S,P.C,upd P.L k (some (.node N))⟩) (b:=.node N) (Turn.refl _ _) L3.ct a6 rfl rfl hk d8.out e4.out c8.out Z.sl (λh=>by have h1:=hT q h;have h2:u.drew.1.size=u.1.size:=rfl;have h3:u.drew.1.size<=q:=hq;omega);rw[if_neg W.out] at R1 R2;go_wp2;go_ret;exact⟨rfl,R1,(Qv (S:=S) B3).trans R2 λk hk=>.inl hk⟩
end
def Pl.cnt (P:Pl)(a:Nat):Nat:=(P.C.get (a:Int)).toNat
def Pl.names (P:Pl)(D:DM)(a:Nat):List Int:=(P.Qh D (a:Int)).named
def Pl.Uc (P:Pl)(D:DM)(H:List Int):Prop:=Jo P.C.n P.cnt (P.names D) H
theorem qaa {P:Pl}{a:Nat}(e:P.C.ok):1<=P.cnt a↔P.C.get (a:Int)≠0:=by
 have:=(Ct.Jc e (a:Int)).1;unfold Pl.cnt;omega
theorem qjv {P:Pl}(f:P.C.res):P.cnt 0=0:=by
 have h:P.C.get ((0:Nat):Int)=0:=by
  by_cases e:P.C.get ((0:Nat):Int)=0
  ·exact e
  ·have:=(Ct.Kw f e).2.2;have h2:P.C.first=2+2*Qe P.C.n:=rfl
   simp at this;omega
 unfold Pl.cnt;rw[h];rfl
theorem q2q (C:Ct){c:Nat}{x:Int}(b:Nat)(e:b<C.n):(C.put c x).get (b:Int)=if b=c then x else C.get (b:Int):=by
 unfold Ct.get;rw[C.Zi,if_pos (show 0<=(b:Int)/\(b:Int)<(C.n:Int) by omega),if_pos (show 0<=(b:Int)/\(b:Int)<(C.n:Int) by omega),Int.toNat_natCast,q6d C c x b e]
structure Kq (D:DM)(P:Pl)(S0:Sp)(C0:Ct):Prop where
 ok:P.ok
 sound:Sound D P S0 C0
 nodes:∀a b,P.L a=some b->∃N,b=.node N/\N.may=true
theorem Kq.kind {D:DM}{P:Pl}{S0:Sp}{C0:Ct}(h:Kq D P S0 C0):∀a b,P.L a=some b->b.kindOk:=λa b e=>by
 obtain⟨N,rfl,_⟩:=h.nodes a b e;exact trivial
theorem Kq.good {D:DM}{P:Pl}{S0:Sp}{C0:Ct}(h:Kq D P S0 C0):∀a b,P.L a=some b->b.good:=λa b e=>by
 obtain⟨N,rfl,hm⟩:=h.nodes a b e;exact q6r hm
theorem Kq.put {D:DM}{P:Pl}{S0:Sp}{C0:Ct}(h:Kq D P S0 C0){N:Nd}(hN:N.may=true)(hf:0<P.C.free):Kq D (P.Zn N) S0 C0/\P.Jq N=0/\(P.Zn N).C.free+1=P.C.free:=by
 obtain⟨c,f⟩:=Ct.Ul hf;obtain⟨_,E,v3⟩:=q6s f hN;have u:=Ct.Uz f;have y:(P.Zn N).C=P.C.alloc:=by rw[v3,q37 f]
 refine⟨⟨by rw[v3];exact qo0 h.ok (qa7 hN),by rw[v3];exact qo2 h.sound _,λa b e=>?_⟩,E,by rw[y];exact u⟩;rw[v3,qfc f] at e;split at e
 ·obtain rfl:=Option.some.inj e;exact⟨N,rfl,hN⟩
 ·exact h.nodes a b e
theorem Kq.fresh:Kq ((DM.mk0 256).Qk (Xt 256)) (Pl.fresh 256) (fmtS 256) (Ct.zero 256)/\120<=(Pl.fresh 256).C.free:=by
 obtain⟨_,h,_⟩:=qdl (D:=DM.mk0 256) (n:=256) (by omega) (by omega) rfl ⟨rfl,rfl⟩;refine⟨⟨qje (by omega) (by omega),h,λa b e=>by cases e⟩,?_⟩;show 120<=(Ct.zero 256).free;rw[Ct.Pq];decide
