/- The code's pool: Ref, Fresh; the superblock is set -/
import Derived.Test.YtnnbaihfboacoaaGreatDoorEu24
namespace Go.Proofs.YtnnbaihfboacoaaGreatDoor
open Go Go.RowKit Go.Proofs
set_option maxHeartbeats 8000000
set_option maxRecDepth 100000
section
theorem qt6 (C:Ct)(a:Int)(c:Nat)(u:C.ok):(C.ref a).get (c:Int)=0↔C.get (c:Int)=0:=by
 by_cases h:C.Y8 a=0
 ·have f:C.ref a=C.put a.toNat (C.get a+1):=by unfold Ct.ref;rw[if_pos h]
  have h0:C.get a≠0:=λe=>by unfold Ct.Y8 at h;rw[if_pos e] at h;omega
  have H:0<=a/\a<(C.n:Int):=Classical.byContradiction λh2=>h0 (by unfold Ct.get;rw[if_neg h2])
  have I:=C.Jc u a;obtain⟨V,F⟩:∃V,C.get a+1=V:=⟨_,rfl⟩;rw[f,F];by_cases G:c<C.n
  ·have h1:(C.put a.toNat V).get (c:Int)=nm (C.put a.toNat V).now c:=by unfold Ct.get;rw[C.Zi,if_pos (by omega),Int.toNat_natCast]
   have h2:C.get (c:Int)=nm C.now c:=by unfold Ct.get;rw[if_pos (by omega),Int.toNat_natCast]
   rw[h1,q6d _ _ _ _ G];by_cases e:c=a.toNat
   ·have E:(c:Int)=a:=by omega
    rw[if_pos e,E];constructor
    ·intro y;omega
    ·intro y;exact absurd y h0
   ·rw[if_neg e,h2]
  ·have h1:(C.put a.toNat V).get (c:Int)=0:=by unfold Ct.get;rw[C.Zi,if_neg (by omega)]
   have h2:C.get (c:Int)=0:=by unfold Ct.get;rw[if_neg (by omega)]
   rw[h1,h2]
 ·have f:C.ref a=C:=by unfold Ct.ref;rw[if_neg h]
  rw[f]
theorem qxx {P:Pl}(h:P.ok)(a:Int):Pl.ok ⟨P.S,P.C.ref a,P.L⟩:=
 ⟨Ct.Qas h.c a,Ct.Qat h.res a,h.may,by show P.S.Qb=((P.C.ref a).n:Int);rw[Ct.Qa1];exact h.sec,h.gen,h.fine⟩
theorem qt7 {w:World}{p d:Nat}{S T:Nat->Prop}{P:Pl}(H:Pool w p d S T P)(a:Int) :
  Calls Tryz.prog 20 #[.pointer (some ⟨p,0,none⟩),.int .i64 a] w λe w'=>e=.returned (.int .i64 (P.C.Y8 a))/\Pool w' p d S T ⟨P.S,P.C.ref a,P.L⟩/\Turn S w w':=by
 have f:=H.ok;obtain⟨m,G,l,clock,v,O,L⟩:=H;have u:=qss L.ct a;have Q:=L.Ie;have y:=Lib.hid (qxx f a);have M:=Lib.hid (λc=>qt6 P.C a c f.c);obtain⟨E,J⟩:∃E,P.C.Y8 a=E:=⟨_,rfl⟩;rw[J] at u ⊢;have F:=Lib.hid u;clear u J f;go_enter Tryz.func20,Tryz.ntmps20
 go_wp2_with fail
 refine F.out.mono ?_;rintro e U ⟨rfl,K,I⟩;have R:=L.Qbl I K (Ct.Qa1 _ _) (λc=>M.out c) y.out;go_wp2;go_ret;exact⟨rfl,⟨m,G,l,clock,v,O,R⟩,I.mono L.Xu.2.2⟩
theorem q7q {w:World}{p d:Nat}{S T:Nat->Prop}{P:Pl}(H:Pool w p d S T P)(a:Int)(r:Bool)(y:P.C.fresh a=r) :
  Calls Tryz.prog 144 #[.pointer (some ⟨p,0,none⟩),.int .i64 a] w λe w'=>e=.returned (.bool r)/\w=w':=by
 obtain⟨m,u,l,clock,v,E,L⟩:=H;have f:=qlw L.ct a r y;go_enter Tryz.func144,Tryz.ntmps144
 go_wp2_with fail
 refine f.mono ?_;rintro e F ⟨rfl,rfl⟩;go_wp2;go_ret;exact⟨rfl,rfl⟩
attribute [local go_sem ↓] q1n
end
section
open Go.ChangeMaps (setBlock)
theorem q5k {N:Nd}(hm:N.may=true){a:Nat}{g:Int}(G:a<=2047)(u:Es g):Zk N (a:Int) g=0/\Jm N (a:Int) g=Zr (N.head (a:Int) g) N.body/\(N.head (a:Int) g).ok=true:=by
 have e:Zk N (a:Int) g=0:=Classical.byContradiction λh=>by
  have h2:=(qsp hm h).2;have E:=u.1;have F:=u.2;omega
 refine⟨e,?_⟩;unfold Zk at e;rw[if_pos hm] at e;obtain⟨f,_,y⟩:=q7b _ _ e;refine⟨?_,f⟩;unfold Jm;rw[if_pos hm,y]
theorem q6r {N:Nd}(hm:N.may=true):(Bk.node N).good:=⟨λ_ _ e f=>(q5k hm e f).2.2,qof hm,λ_ _ e f=>(q5k hm e f).2.1⟩
def Pl.Xg (P:Pl)(N:Nd):Int:=if N.may=true then P.C.Uy else 0
def Pl.Jq (P:Pl)(N:Nd):Int:=if N.may=true then P.C.Uf else 1
def Pl.Zn (P:Pl)(N:Nd):Pl:=if N.may=true then P.lay (.node N) else P
end
section
open Go.ChangeMaps (setBlock)
theorem Ae {C:Ct}{a:Int}(h:C.get a≠0):∃n:Nat,a=(n:Int)/\n<C.n:=by
 have e:0<=a/\a<(C.n:Int):=Classical.byContradiction λh2=>h (by unfold Ct.get;rw[if_neg h2])
 exact⟨a.toNat,by omega,by omega⟩
end
structure Qi (b:Nat)(w:World)(d p:Nat)(S0 S T:Nat->Prop)(D:DM)(P:Pl):Prop where
 U8:Y9 w d S0 D
 pool:Pool w p d S T P
 sub:∀k,S0 k->T k
 apart:∀k,S0 k->¬S k
 tight:∀k,T k->b<=k/\k<w.heap.size
def Sys (b:Nat)(w:World)(d p:Nat)(T:Nat->Prop)(D:DM)(P:Pl):Prop:=∃S0 S,Qi b w d p S0 S T D P
def grow (T:Nat->Prop)(w w':World):Nat->Prop:=λk=>(T k\/w.1.size<=k)/\k<w'.1.size
section
variable {b:Nat}{w w':World}{d p:Nat}{T:Nat->Prop}{D:DM}{P:Pl}
theorem Qi.Cj {S0 S:Nat->Prop}(H:Qi b w d p S0 S T D P):∀k,S k->T k:=by
 obtain⟨m,e,l,clock,v,f,L⟩:=H.pool;exact L.sub
theorem Qi.base {S0 S:Nat->Prop}(H:Qi b w d p S0 S T D P):b<=w.1.size:=by
 obtain⟨m,e,l,clock,v,f,L⟩:=H.pool;have:=(H.tight _ (L.sub _ L.Xu.1)).1;have:=L.Ie;omega
theorem Sys.ok (H:Sys b w d p T D P):P.ok:=by
 obtain⟨S0,S,H⟩:=H;exact H.pool.ok
theorem Sys.base (H:Sys b w d p T D P):b<=w.1.size:=by
 obtain⟨S0,S,H⟩:=H;exact H.base
theorem qxy {u w:World}{d p q:Nat}{S0:Nat->Prop}{D:DM}{P:Pl}(H:Si u w p d q S0 D P)(f:∀k,S0 k->b<=k)(y:b<=u.1.size):Sys b w d p (λk=>b<=k/\k<w.1.size) D P:=by
 refine⟨λk=>(S0 k\/u.1.size<=k)/\k<q,λk=>q<=k/\k<w.1.size,H.U8,?_,λk e=>?_,λk e h=>?_,λk e=>e⟩
 ·have h:=H.pool (λk=>b<=k) (λk e=>by have:=H.ge.1;omega);exact h.mono (λk e h=>⟨h,e⟩) (λk e h=>h.1) λk e=>⟨by have:=H.ge.1;omega,e.2⟩
 ·have:=H.ge.2;exact⟨e.1.elim (f k) λh=>by omega,by omega⟩
 ·omega
end
theorem q93 {P:Pl}{a:Nat}{b:Bk}(h:P.live a=some b):P.C.get (a:Int)≠0/\P.L a=some b:=by
 unfold Pl.live at h;split at h
 ·cases h
 ·rename_i h0;exact⟨h0,h⟩
theorem qxc (P:Pl):P.new.length<=P.C.n:=by
 unfold Pl.new;have:=List.length_filterMap_le P.Ib (List.range P.C.n);rwa [List.length_range] at this
theorem qux {P:Pl}(h:P.ok):P.steps.length<=2100:=by
 have h1:=Pl.Eh P;have h2:=qxc P;have e:=h.c.1;have f:Qe P.C.n<=18:=by unfold Qe;omega
 omega
theorem qxz {n:Nat}(h:n<=2048):(Xt n).length<=30:=by
 rw[qnw];unfold Qe;omega
theorem qrw {D:DM}{P:Pl}(h:P.ok){S0:Sp}{y:Ct}(F:Sound D P S0 y):D.Lu P=0/\D.Md P=P.done/\Sound (D.Qk P.steps) P.done P.sup P.C/\
  Eb (D.Qk P.steps).newest (D.Qk P.steps).off (D.Qk P.steps).n=0/\Pl.Va (D.Qk P.steps).newest (D.Qk P.steps).n=P.done/\Gq (D.Qk P.steps).newest=P.sup:=by
 obtain⟨E,e,_⟩:=qfd h F;have f:D.Xp P.steps=true:=decide_eq_true E;obtain⟨G,u,H⟩:=q8g e;refine⟨(qe2 f).1,(qe2 f).2,e,by rw[e.free.on];exact G,?_,u⟩;unfold Pl.Va;rw[u];have:Me (D.Qk P.steps).newest (D.Qk P.steps).n P.sup.gen=P.C.commit:=H;rw[this];rfl
def shB:List UInt8:=[97,98]
def qoz (M:Nd)(E:Int)(w:World)(e:Ending)(w':World):Prop:=
 ∃y u c1 F f G,e=.returned (.tuple #[.agg #[.int .i64 M.lvl,.slice y u c1,.slice F f G],.int .i64 E])/\u<=20/\f<=20/\Zl w' y u c1 M.items/\Zm w' F f G M.kids/\Below w.1.size w w'
def q68 (M:Nd)(E:Int)(w:World)(e:Ending)(w':World):Prop:=
 ∃y u c1 F f G,e=.returned (.tuple #[.agg #[.int .i64 M.lvl,.slice y u c1,.slice F f G],.int .i64 E])/\u<=20/\f<=20/\J4 w' w.1.size y u c1 M.items/\Qs w' w.1.size 81 4 F f G (M.kids.map Ql.vs)/\Below w.1.size w w'
theorem q68.ans {M:Nd}{E:Int}{w:World}{e:Ending}{w':World}(h:q68 M E w e w'):qoz M E w e w':=by
 obtain⟨f,K,c1,u,J,y,h1,h2,F,G,H,I⟩:=h;exact⟨f,K,c1,u,J,y,h1,h2,F,G.Zq,H.Vs (by omega),I⟩
def Jh:Nd:=⟨0,[],[]⟩
def Xz (x:List UInt8)(a o:Int):Int:=if (Qz x a).isSome=true then 0 else o
def X0 (x:List UInt8)(a:Int):Nd:=(Qz x a).getD Jh
section
variable {w w':World}{b n c m d:Nat}{l:Int}{A B:Option Addr}
end
theorem qfw {w:World}{p:Nat}{a E o:Int}(M:E≠0)(f:∀u,Below w.1.size w u->Calls Tryz.prog 67 #[.pointer (some ⟨p,0,none⟩),.int .i64 a] u λe w'=>∃A n c,e=.returned (.tuple #[.slice A n c,.int .i64 o,.int .i64 E])/\Below u.1.size u w') :
  Calls Tryz.prog 35 #[.pointer (some ⟨p,0,none⟩),.int .i64 a] w λe w'=>q68 Jh E w e w':=by
 have U:(E==0)=false:=by simpa using M
 have H:NB (w.alloc (.cells #[.int .i64 0,.slice none 0 0,.slice none 0 0] 75)) w.1.size 0 none 0 0 none 0 0:=NB.new w _ _ _ _ _ _ _ _;have F:Below w.1.size w (w.alloc (.cells #[.int .i64 0,.slice none 0 0,.slice none 0 0] 75)):=Qm;have Q:(w.alloc (.cells #[.int .i64 0,.slice none 0 0,.slice none 0 0] 75)).1.size=w.1.size+1:=by simp
 have y:=Lib.hid f;clear f;go_enter Tryz.func35,Tryz.ntmps35
 go_wp2_with fail
 generalize w.alloc (.cells #[.int .i64 0,.slice none 0 0,.slice none 0 0] 75)=O at F H Q ⊢;refine (y.out O F).mono ?_;rintro e W ⟨A,n,c,rfl,G⟩;have I:=H.below G (by omega);go_wp2_with (first
  |(refine Gt rfl _ _ rfl w.1.size rfl 0 none 0 0 none 0 0 rfl I ?_;intro X J K)
  |fail)
 refine bodyPost_ret (q16 Tryz.results35 rfl (Ii J)) rfl ?_;have Y:=G.size;exact⟨none,0,0,none,0,0,rfl,by omega,by omega,O8 _ _,q10 _ _ _ _,(F.trans (G.mono (by omega))).trans (K.below (λk R=>by omega) (by omega))⟩
theorem qcd {w:World}{p:Nat}{a o:Int}{x:List UInt8}(ht:Tab w)(J:∀u,Below w.1.size w u->Calls Tryz.prog 67 #[.pointer (some ⟨p,0,none⟩),.int .i64 a] u λe w'=>∃A n c,e=.returned (.tuple #[.slice A n c,.int .i64 o,.int .i64 0])/\Sl w' A n c x/\Below u.1.size u w') :
  Calls Tryz.prog 35 #[.pointer (some ⟨p,0,none⟩),.int .i64 a] w λe w'=>q68 (X0 x a) (Xz x a o) w e w':=by
 have R1:NB (w.alloc (.cells #[.int .i64 0,.slice none 0 0,.slice none 0 0] 75)) w.1.size 0 none 0 0 none 0 0:=NB.new w _ _ _ _ _ _ _ _;have Q:Below w.1.size w (w.alloc (.cells #[.int .i64 0,.slice none 0 0,.slice none 0 0] 75)):=Qm;have z1:(w.alloc (.cells #[.int .i64 0,.slice none 0 0,.slice none 0 0] 75)).1.size=w.1.size+1:=by simp
 have t1:=ht.below Q ht.1;have I:=Lib.hid J;clear J
 cases K:Qz x a with
 |none=>
  have e1:X0 x a=Jh:=by unfold X0;rw[K];rfl
  have e2:Xz x a o=o:=by unfold Xz;rw[K];rfl
  rw[e1,e2];have f:=λ(A:Option Addr) (n c:Nat) (y:World) (U:Sl y A n c x) (W:Tab y)=>qfm A n c x a y U W
  unfold q2o at f;rw[K] at f;have O:=Lib.hid f;clear f K e1 e2;go_enter Tryz.func35,Tryz.ntmps35
  go_wp2_with fail
  generalize w.alloc (.cells #[.int .i64 0,.slice none 0 0,.slice none 0 0] 75)=w1 at Q R1 z1 t1 ⊢;refine (I.out w1 Q).mono ?_;rintro e y ⟨A,n,c,rfl,U,G⟩;have R2:=R1.below G (by omega);have W:=t1.below G t1.1;have z2:=G.size;go_wp2_with fail
  refine (O.out A n c y U W).mono ?_;rintro e F ⟨X,n1,c1,Y,m1,Z,rfl,a2,a1,hI,hK,R⟩;have z3:=R.size;have R3:=R2.below R (by omega);have M:=Q.trans ((G.trans (R.mono z2)).mono (by omega));go_wp2_with (first
   |(refine Gt rfl (.tmp 4) (.tmp 29) rfl w.1.size rfl 0 none 0 0 none 0 0 rfl (R3.below (E:=F.1.size) (Qm) (by omega)) ?_;intro w5 R5 T5)
   |fail)
  refine bodyPost_ret (q16 Tryz.results35 rfl (Ii R5)) rfl ?_;have H:Below F.1.size F (F.alloc (.cells #[.int .i64 0,.slice X n1 c1,.slice Y m1 Z] 75)):=Qm;exact⟨none,0,0,none,0,0,rfl,by omega,by omega,O8 _ _,q10 _ _ _ _,(M.trans (H.mono M.size)).trans (T5.below (λk hk=>by omega) (by have:=M.size;have:=H.size;omega))⟩
 |some N=>
  have e1:X0 x a=N:=by unfold X0;rw[K];rfl
  have e2:Xz x a o=0:=by unfold Xz;rw[K];rfl
  rw[e1,e2];have f:=λ(A:Option Addr) (n c:Nat) (y:World) (U:Sl y A n c x) (W:Tab y)=>qfm A n c x a y U W
  unfold q2o at f;rw[K] at f;have O:=Lib.hid f;clear f K e1 e2;go_enter Tryz.func35,Tryz.ntmps35
  go_wp2_with fail
  generalize w.alloc (.cells #[.int .i64 0,.slice none 0 0,.slice none 0 0] 75)=w1 at Q R1 z1 t1 ⊢;refine (I.out w1 Q).mono ?_;rintro e y ⟨A,n,c,rfl,U,G⟩;have R2:=R1.below G (by omega);have W:=t1.below G t1.1;have z2:=G.size;go_wp2_with fail
  refine (O.out A n c y U W).mono ?_;rintro e F ⟨X,n1,c1,Y,m1,Z,rfl,a2,a1,hI,hK,R⟩;have hI:J4 F y.1.size X n1 c1 N.items:=hI;have hK:Qs F y.1.size 81 4 Y m1 Z (N.kids.map Ql.vs):=hK;have hl:((some N:Option Nd).getD ⟨0,[],[]⟩).lvl=N.lvl:=rfl;simp only[hl];have z3:=R.size;have R3:=R2.below R (by omega);have M:=Q.trans ((G.trans (R.mono z2)).mono (by omega));have H:Below F.1.size F (F.alloc (.cells #[.int .i64 N.lvl,.slice X n1 c1,.slice Y m1 Z] 75)):=Qm;go_wp2_with (first
   |(refine Gt rfl (.tmp 4) (.tmp 31) rfl w.1.size rfl N.lvl X n1 c1 Y m1 Z rfl (R3.below H (by omega)) ?_;intro w5 R5 T5)
   |fail)
  refine bodyPost_ret (q16 Tryz.results35 rfl (Ii R5)) rfl ?_;exact⟨X,n1,c1,Y,m1,Z,rfl,a2,a1,((hI.below H).low T5 (λk hk=>by have h1:k=w.1.size:=hk;omega)).less (by omega),((hK.below H).turned T5 (λk hk e=>by have h1:=((hK.below H).Qa k hk).1;have h2:k=w.1.size:=e;omega)).less (by omega),(M.trans (H.mono M.size)).trans (T5.below (λk hk=>by omega) (by have:=M.size;have:=H.size;omega))⟩
def Pl.Zh (P:Pl)(D:DM)(a:Int):Int:=if P.C.get a=0 then 1 else match P.live a.toNat with
 |some (.node _)=>0
 |some (.bytes _ _)=>1
 |none=>if D.Ym a=0 then Xz (D.Yu a) a 5 else D.Ym a
def Pl.Qh (P:Pl)(D:DM)(a:Int):Nd:=if P.C.get a=0 then Jh else match P.live a.toNat with
 |some (.node N)=>N
 |some (.bytes _ _)=>Jh
 |none=>if D.Ym a=0 then X0 (D.Yu a) a else Jh
theorem q45 {N:Nd}(h:(Bk.node N).good):N.may=true:=by
 cases hm:N.may with
 |true=>rfl
 |false=>
  have h1:=h.len (a:=0) (g:=0) (by omega) q2f;have h2:(Bk.node N).out 0 0=[]:=by show Jm N _ _=[];unfold Jm;rw[if_neg (by rw[hm];decide)]
  rw[h2] at h1
  cases h1
theorem qt8 {N:Nd}(h:(Bk.node N).good){a:Nat}(f:a<=2047)(o:Int):X0 ((Bk.node N).out a 0) (a:Int)=N/\Xz ((Bk.node N).out a 0) (a:Int) o=0:=by
 have hm:=q45 h;have e:Qz ((Bk.node N).out a 0) (a:Int)=some N:=by
  show Qz (Jm N (a:Int) 0) (a:Int)=some N;rw[q7n hm (q5k hm f q2f).1,if_pos rfl]
 unfold X0 Xz;rw[e];exact⟨rfl,rfl⟩
theorem qp0 {k:Int}{l:List UInt8}(h:(Bk.bytes k l).good)(y:k=5\/k=6){a:Nat}(u:a<=2047)(o:Int):X0 ((Bk.bytes k l).out a 0) (a:Int)=Jh/\Xz ((Bk.bytes k l).out a 0) (a:Int) o=o:=by
 obtain⟨h1,h2,f⟩:=h.opens u q2f;have e:Qz ((Bk.bytes k l).out a 0) (a:Int)=none:=by
  unfold Qz;rw[if_pos f,h1];unfold Dh;split
  ·rw[if_neg];rintro⟨e,_⟩;have e:k=if ((Bk.bytes k l).hd a 0).level=0 then (3:Int) else 4:=e
   split at e<;>omega
  ·rfl
 unfold X0 Xz;rw[e];exact⟨rfl,rfl⟩
def Bk.kindOk (b:Bk):Prop:=match b with
 |.node _=>True
 |.bytes k l=>∃m,Ia k=some m/\l.length<=m
theorem qp1 {k:Int}{l:List UInt8}(P:Pl)(e:∀a b,P.L a=some b->b.kindOk){a:Nat}(h:P.live a=some (.bytes k l)):k=5\/k=6:=by
 obtain⟨m,hm,_⟩:=e a _ (q93 h).2;exact (qlx hm).1
theorem qa5 {w:World}{p d:Nat}{S0 S T:Nat->Prop}{D:DM}{P:Pl}(K:Y9 w d S0 D)(H:Pool w p d S T P)(W:∀a b,P.L a=some b->b.kindOk)(O:Tab w)(a:Int) :
  Calls Tryz.prog 35 #[.pointer (some ⟨p,0,none⟩),.int .i64 a] w λe w'=>q68 (P.Qh D a) (P.Zh D a) w e w':=by
 by_cases h0:P.C.get a=0
 ·have E:P.Zh D a=1:=if_pos h0;have F:P.Qh D a=Jh:=if_pos h0;rw[E,F];exact qfw (o:=0) (by omega) λu y=>(qt4 (H.below y) a h0).mono λe w' h=>⟨_,_,_,h.1,by rw[<-h.2];exact Below.refl _ _⟩
 ·obtain⟨n,rfl,hn⟩:=Ae h0;have G:n<=2047:=by have:=H.ok.c.1;omega
  have R:P.Zh D (n:Int)=match P.live n with
    |some (.node _)=>0
    |some (.bytes _ _)=>1
    |none=>if D.Ym (n:Int)=0 then Xz (D.Yu (n:Int)) (n:Int) 5 else D.Ym (n:Int):=by unfold Pl.Zh;rw[if_neg h0,Int.toNat_natCast]
  have U:P.Qh D (n:Int)=match P.live n with
    |some (.node N)=>N
    |some (.bytes _ _)=>Jh
    |none=>if D.Ym (n:Int)=0 then X0 (D.Yu (n:Int)) (n:Int) else Jh:=by unfold Pl.Qh;rw[if_neg h0,Int.toNat_natCast]
  rw[R,U]
  cases I:P.live n with
  |some b=>
   have M:b.good:=by
    obtain⟨m,Q,l,clock,v,Z,L⟩:=H;exact L.good n b (q93 I).2
   have f:=qcd (w:=w) (p:=p) (a:=(n:Int)) (o:=1) (x:=b.out n 0) O λu y=>qm5 (H.below y) n b I
   cases b with
   |node N=>
    obtain⟨E,F⟩:=qt8 M G 1;rw[E,F] at f;exact f
   |bytes k l=>
    obtain⟨E,F⟩:=qp0 M (qp1 P W I) G 1;rw[E,F] at f;exact f
  |none=>
   by_cases f:D.Ym (n:Int)=0
   ·have Y:=qcd (w:=w) (p:=p) (a:=(n:Int)) (o:=5) (x:=D.Yu (n:Int)) O λu y=>by
     have J:=qa1 (K.below y) (H.below y) n h0 I;rw[f] at J;exact J
    simp only[if_pos f];exact Y
   ·simp only[if_neg f];exact qfw (o:=5) f λu y=>(qa1 (K.below y) (H.below y) n h0 I).mono λe w' h=>by
     obtain⟨A,m,c,X,_,J⟩:=h;exact⟨A,m,c,X,J⟩
theorem qp2 {w:World}{p d:Nat}{S0 S T:Nat->Prop}{D:DM}{P:Pl}(f:Y9 w d S0 D)(H:Pool w p d S T P)(u:∀a b,P.L a=some b->b.kindOk)(y:Tab w)(a:Int) :
  Calls Tryz.prog 35 #[.pointer (some ⟨p,0,none⟩),.int .i64 a] w λe w'=>qoz (P.Qh D a) (P.Zh D a) w e w':=(qa5 f H u y a).mono λ_ _ h=>h.ans
def Pl.store (P:Pl)(D:DM):Int->Nd × Int:=λa=>(P.Qh D a,P.Zh D a)
theorem q6s {P:Pl}{c:Nat}(h:P.C.pick=some c){N:Nd}(e:N.may=true):P.Xg N=(c:Int)/\P.Jq N=0/\P.Zn N=P.lay (.node N):=by
 obtain⟨f,u,_⟩:=Ct.Xv h;unfold Pl.Xg Pl.Jq Pl.Zn;rw[if_pos e,if_pos e,if_pos e];exact⟨u,f,rfl⟩
theorem q4q {P:Pl}{D:DM}{a:Int}(h:(P.store D a).2=0):∃n:Nat,a=(n:Int)/\n<P.C.n/\P.C.get (n:Int)≠0:=by
 have h0:P.C.get a≠0:=λe=>by
  have h:P.Zh D a=0:=h;unfold Pl.Zh at h;rw[if_pos e] at h
  cases h
 obtain⟨n,rfl,hn⟩:=Ae h0;exact⟨n,rfl,hn,h0⟩
theorem qa6 {P:Pl}(D:DM){c:Nat}(h:P.C.pick=some c){N:Nd}(u:N.may=true):(P.Zn N).store D (c:Int)=(N,0):=by
 obtain⟨y,_⟩:=Ct.Xk h;have f:=qdm h (.node N) c y;have e:=qfc h (.node N) c;rw[if_pos rfl] at f e;rw[(q6s h u).2.2];unfold Pl.store Pl.Qh Pl.Zh Pl.live;rw[Int.toNat_natCast,f,e];rfl
theorem qa7 {N:Nd}(e:N.may=true):(Bk.node N).fine:=(q6r e).fine
theorem qa8 {p:List Qc}(h:p≠[]):(⟨0,p,[]⟩:Nd).least=(Qj p 0).k:=by
 have e:0<p.length:=List.length_pos_iff.2 h;unfold Nd.least;rw[q1u,List.length_map,if_neg (by omega),q18 p e]
theorem q7r (l:Int){q:List Ql}(h:q≠[]):(⟨l,[],q⟩:Nd).least=(Qg q 0).k:=by
 have e:0<q.length:=List.length_pos_iff.2 h;unfold Nd.least;rw[q4n,List.length_map,if_neg (by omega),q4o q e]
structure Qa5 (l:Nat)(R:Int->Nd × Int)(Ns:List Nd)(rows:List (List Qc)):Prop where
 len:rows.length=Ns.length
 may:∀N∈Ns,N.may=true
 holds:∀(j:Nat) (N:Nd) (p:List Qc),Ns[j]?=some N->rows[j]?=some p->N.least=(Qj p 0).k/\∀(R':Int->Nd × Int) (a:Int),(∀b,(R b).2=0->R' b=R b)->R' a=(N,0)->Qp R' l a p
theorem qa9 {G:List Zw}{x:Qc}:x∈rowOf G↔∃t∈G,x∈t.2:=by
 unfold rowOf;rw[List.mem_flatten];constructor
 ·rintro⟨r,u,f⟩;obtain⟨t,e,rfl⟩:=List.mem_map.1 u;exact⟨t,e,f⟩
 ·rintro⟨t,e,f⟩;exact⟨_,List.mem_map_of_mem e,f⟩
structure Grew (P P':Pl)(D:DM)(root:Int)(its:List Qc):Prop where
 tree:∃l,l<=6/\Qp (P'.store D) l root its
 ok:P'.ok
 n:P'.C.n=P.C.n
 S:P'.S=P.S
 free:10<=P'.C.free
 old:∀a,(P.store D a).2=0->P'.store D a=P.store D a
 lo:1<=root/\root<2048
theorem qp7 {P:Pl}{n:Nat}(h0:P.C.get (n:Int)≠0)(h:P.live n=none):P.L n=none:=by
 unfold Pl.live at h;rwa [if_neg h0] at h
theorem q7s {P:Pl}{D:DM}{n:Nat}(h0:P.C.get (n:Int)≠0)(f:P.live n=none)(e:D.Ym (n:Int)=0):P.store D (n:Int)=(X0 (D.Yu (n:Int)) (n:Int),Xz (D.Yu (n:Int)) (n:Int) 5):=by
 unfold Pl.store Pl.Qh Pl.Zh;rw[if_neg h0,if_neg h0,Int.toNat_natCast,f];dsimp only;rw[if_pos e,if_pos e]
theorem qcf {P:Pl}{D:DM}{n:Nat}(h0:P.C.get (n:Int)≠0){b:Bk}(f:P.live n=some b)(e:(P.store D (n:Int)).2=0):∃N,b=.node N/\P.store D (n:Int)=(N,0):=by
 cases b with
 |node N=>
  refine⟨N,rfl,?_⟩;unfold Pl.store Pl.Qh Pl.Zh;rw[if_neg h0,if_neg h0,Int.toNat_natCast,f]
 |bytes k l=>
  have e:P.Zh D (n:Int)=0:=e;unfold Pl.Zh at e;rw[if_neg h0,Int.toNat_natCast,f] at e;have e:(1:Int)=0:=e;omega
theorem q8j {D:DM}{P:Pl}(h:P.ok){S0:Sp}{U:Ct}(y:Sound D P S0 U)(G:∀a b,P.L a=some b->b.good)(a:Int)(M:(P.store D a).2=0):P.done.store (D.Qk P.steps) a=P.store D a:=by
 obtain⟨n,rfl,hn,h0⟩:=q4q M;obtain⟨_,K,_,s4,s5⟩:=qfd h y;have Y:=h.c.1.2;have H:n<=2047:=by omega
 have W:(D.Qk P.steps).n=P.C.n:=K.n;have F:P.done.C.get (n:Int)≠0:=h0;have I:P.done.live n=none:=by
  unfold Pl.live;split<;>rfl
 have R:∀(D:DM),D.free->n<D.n->D.Ym (n:Int)=0/\D.Yu (n:Int)=D.newest n:=λD Z hl=>by
  have f:(0:Int)<=(n:Int)/\(n:Int)<(D.n:Int):=by omega
  unfold DM.Ym DM.Yu;rw[Z.on,if_neg Bool.false_ne_true,if_neg Bool.false_ne_true,if_pos f,if_pos f,Int.toNat_natCast];exact⟨rfl,rfl⟩
 obtain⟨r1,r2⟩:=R _ K.free (by omega);obtain⟨r3,r4⟩:=R D y.free (by have:=y.n;omega);have hw:(D.Qk P.steps).newest n=(D.Qk P.steps).Jp n:=by unfold DM.newest;rw[K.Vr];rfl
 have J:D.newest n=D.Jp n:=by unfold DM.newest;rw[y.Vr];rfl
 rw[q7s F I r1,r2,hw]
 cases E:P.live n with
 |some b=>
  obtain⟨N,rfl,e⟩:=qcf h0 E M;have u:=(q93 E).2;have hm:=q45 (G n _ u);rw[e,s4 n _ hn u h0];have Q:=h.Kv;have X:Qz ((Bk.node N).out n P.g) (n:Int)=some N:=by
   show Qz (Jm N (n:Int) P.g) (n:Int)=some N;rw[q7n hm (q5k hm H ⟨by have:=Q.1;omega,by have:=Q.2;omega⟩).1,if_pos rfl]
  unfold X0 Xz;rw[X];rfl
 |none=>
  have u:=qp7 h0 E;rw[q7s h0 E r3,r4,J];rw[s5 n ?_ ?_]
  ·have hr:=h.res n hn;refine Classical.byContradiction λa1=>h0 ?_
   unfold Ct.get;rw[if_pos ⟨by omega,by omega⟩,Int.toNat_natCast];exact hr (by omega)
  ·intro x hx;obtain⟨_,b,O,_⟩:=q7l.1 hx;rw[u] at O
   cases O
section
open Go.ChangeMaps (setBlock)
def isNode:Option Bk->Bool
 |some (.node _)=>true
 |_=>false
def Pl.Ee (P:Pl)(a:Int)(N:Nd):Bool:=N.may&&(P.C.fresh a&&isNode (P.L a.toNat))
def Pl.Gw (P:Pl)(a:Int)(N:Nd):Int:=if P.Ee a N=true then 0 else 1
def Pl.Vq (P:Pl)(a:Int)(N:Nd):Pl:=if P.Ee a N=true then ⟨P.S,P.C,upd P.L a.toNat (some (.node N))⟩ else P
theorem q31 {C:Ct}{a:Int}(h:C.fresh a=true):C.get a≠0:=λh0=>by
 unfold Ct.fresh at h;rw[if_pos h0] at h
 cases h
def bkE:Bk->Int
 |.node _=>0
 |.bytes _ _=>1
theorem qju {P:Pl}(D:DM){k:Nat}(h0:P.C.get (k:Int)≠0){b:Bk}(h:P.live k=some b):P.Zh D (k:Int)=bkE b:=by
 unfold Pl.Zh;rw[if_neg h0,Int.toNat_natCast,h]
 cases b<;>rfl
theorem qma {w0 w:World}{p d:Nat}{S0 S T:Nat->Prop}{D:DM}{P:Pl}(L0:Y9 w d S0 D)(H:Pool w p d S T P)(e0:∀a b,P.L a=some b->b.kindOk)(d8:∀a:Nat,P.C.fresh (a:Int)=true->∃b,P.L a=some b)(hT:∀k,T k->k<w.1.size)(B0:Below w0.1.size w0 w)(a:Int)(N:Nd)(A:Option Addr)(n c:Nat)(B:Option Addr)(F G:Nat)(hI:Zl w0 A n c N.items)(hK:Zm w0 B F G N.kids)(hn:n<=1000)(hm:F<=1000)(ht:Tab w) :
  Calls Tryz.prog 145 #[.pointer (some ⟨p,0,none⟩),.int .i64 a,.agg #[.int .i64 N.lvl,.slice A n c,.slice B F G]] w λe w'=>e=.returned (.int .i64 (P.Gw a N))/\Pool w' p d S T (P.Vq a N)/\Turn S w w':=by
 have Q:=H.ok;have N1:NB (w.alloc (.cells #[.int .i64 N.lvl,.slice A n c,.slice B F G] 75)) w.1.size N.lvl A n c B F G:=NB.new w _ _ _ _ _ _ _ _;have W:Below w.1.size w (w.alloc (.cells #[.int .i64 N.lvl,.slice A n c,.slice B F G] 75)):=Qm;have z1:(w.alloc (.cells #[.int .i64 N.lvl,.slice A n c,.slice B F G] 75)).1.size=w.1.size+1:=by simp
 obtain⟨r,hr⟩:∃r,N.may=r:=⟨_,rfl⟩;obtain⟨f,hf⟩:∃f,P.C.fresh a=f:=⟨_,rfl⟩;have a1:=Lib.hid (λw (hw:Below w0.1.size w0 w)=>q2l N r hr A n c B F G w (hI.below hw) (hK.below hw) hn hm);have b0:=Lib.hid (λ(w1:World) (H1:Pool w1 p d S T P)=>q7q H1 a f hf);have c0:=N1.c0;have c1:=N1.c1;have c2:=N1.c2;have t1:=ht.below W ht.1;have H1:=H.below W;have B1:=B0.trans (W.mono B0.size);have hE:P.Gw a N=if (r&&(f&&isNode (P.L a.toNat)))=true then 0 else 1:=by unfold Pl.Gw Pl.Ee;rw[hr,hf]
 have hP:P.Vq a N=if (r&&(f&&isNode (P.L a.toNat)))=true then ⟨P.S,P.C,upd P.L a.toNat (some (.node N))⟩ else P:=by unfold Pl.Vq Pl.Ee;rw[hr,hf]
 rw[hE,hP];clear hE hP
 cases r with
 |false=>
  clear hf hr;go_enter Tryz.func145,Tryz.ntmps145
  go_wp2_with fail
  generalize w.alloc (.cells #[.int .i64 N.lvl,.slice A n c,.slice B F G] 75)=w1 at W N1 z1 c0 c1 c2 t1 H1 B1 ⊢;refine (a1.out w1 B1).mono ?_;rintro e w2 ⟨rfl,b2⟩;have I:=W.trans (b2.mono (by omega));go_wp2;go_ret;exact⟨rfl,H.below I,Qv I⟩
 |true=>
  cases f with
  |false=>
   clear hf hr;go_enter Tryz.func145,Tryz.ntmps145
   go_wp2_with fail
   generalize w.alloc (.cells #[.int .i64 N.lvl,.slice A n c,.slice B F G] 75)=w1 at W N1 z1 c0 c1 c2 t1 H1 B1 ⊢;refine (a1.out w1 B1).mono ?_;rintro e w2 ⟨rfl,b2⟩;have I:=W.trans (b2.mono (by omega));have H2:=H.below I;go_wp2_with fail
   refine (b0.out w2 H2).mono ?_;rintro e y ⟨rfl,rfl⟩;go_wp2;go_ret;exact⟨rfl,H2,Qv I⟩
  |true=>
   have O:=q31 hf;obtain⟨k,rfl,hk⟩:=Ae O;rw[Int.toNat_natCast];have c6:k<=2047:=by have:=Q.c.1;omega
   obtain⟨b,K⟩:=d8 k hf;have a6:P.live k=some b:=by unfold Pl.live;rw[if_neg O];exact K
   have b7:=qju D O a6;have R:=λ(w2:World) (bb:Below w.1.size w w2)=>qp2 (L0.below bb) (H.below bb) e0 (ht.below bb ht.1) (k:Int)
   rw[b7] at R;obtain⟨M0,b6⟩:∃M0,P.Qh D (k:Int)=M0:=⟨_,rfl⟩;rw[b6] at R
   cases b with
   |bytes kk l=>
    rw[K];have b3:=Lib.hid R;clear hf hr R b7 b6 a6 K O;show Calls _ _ _ _ λe w'=>e=.returned (.int .i64 1)/\Pool w' p d S T P/\Turn S w w'
    go_enter Tryz.func145,Tryz.ntmps145
    go_wp2_with fail
    generalize w.alloc (.cells #[.int .i64 N.lvl,.slice A n c,.slice B F G] 75)=w1 at W N1 z1 c0 c1 c2 t1 H1 B1 ⊢;refine (a1.out w1 B1).mono ?_;rintro e w2 ⟨rfl,b2⟩;have I:=W.trans (b2.mono (by omega));have H2:=H.below I;go_wp2_with fail
    refine (b0.out w2 H2).mono ?_;rintro e y ⟨rfl,rfl⟩;go_wp2_with fail
    refine (b3.out w2 I).mono ?_;rintro e E ⟨A1,n1,q1,a8,m1,d1,rfl,_,_,_,_,b4⟩;have b5:Below E.1.size E (E.alloc (.cells #[.int .i64 0,.slice none 0 0,.slice none 0 0] 75)):=Qm;have R5:NB (E.alloc (.cells #[.int .i64 0,.slice none 0 0,.slice none 0 0] 75)) E.1.size 0 none 0 0 none 0 0:=NB.new E _ _ _ _ _ _ _ _;go_wp2_with (first
     |(refine Gt rfl _ _ rfl E.1.size rfl M0.lvl A1 n1 q1 a8 m1 d1 rfl R5 ?_;intro w6 R6 T6)
     |fail)
    go_ret;have B4:=I.trans (b4.mono I.size);have B6:Below w.1.size w w6:=(B4.trans (b5.mono B4.size)).trans (T6.below (λk hk=>by have:=B4.size;omega) (by have h1:=B4.size;have h2:=b5.size;omega));exact⟨rfl,H.below B6,Qv B6⟩
   |node M=>
    rw[K];have b3:=Lib.hid R;obtain⟨c7,e4,_⟩:=q5k hr c6 q2f;have b9:=q6r hr;have X:=b9.len (a:=k) (g:=0) c6 q2f;have c8:(Bk.node N).out k 0=Jm N (k:Int) 0:=rfl;rw[c8] at X;have d2:=Lib.hid c7;have e6:=Lib.hid X;have J:∀c:Nat,Pl.live ⟨P.S,P.C,upd P.L k (some (.node N))⟩ c=if c=k then some (.node N) else P.live c:=λc=>by
     unfold Pl.live;by_cases e:c=k
     ·subst e;rw[if_pos rfl,if_neg O];exact Aw _ _ _
     ·rw[if_neg e];show (if _ then _ else upd P.L k _ c)=_;rw[Ar _ _ e]
    have u:∀c x,(upd P.L k (some (.node N))) c=some x->x.good:=λc x h=>by
     by_cases e:c=k
     ·subst e;rw[Aw] at h;injection h with h;rw[<-h];exact b9
     ·rw[Ar _ _ e] at h;obtain⟨m,d4,l,clock,v,Sc,L⟩:=H;exact L.good c x h
    have a7:Pl.ok ⟨P.S,P.C,upd P.L k (some (.node N))⟩:=⟨Q.c,Q.res,Q.may,Q.sec,Q.gen,λc x h=>(u c x h).fine⟩;have d0:=Lib.hid J;have c9:=Lib.hid u;have b8:=Lib.hid a7;obtain⟨m,d4,l,clock,v,Sc,L⟩:=H;have Y:¬Zf (k:Int) l=none:=by rw[L.look k,a6];exact λh=>nomatch h
    have U:=Lib.hid Y;have f0:=L.Ie;have e8:=L.mlt;clear hf hr R b7 b6 a6 K O c7 e4 X c8 J u a7 Y;show Calls _ _ _ _ λe w'=>e=.returned (.int .i64 0)/\Pool w' p d S T ⟨P.S,P.C,upd P.L k (some (.node N))⟩/\Turn S w w'
    go_enter Tryz.func145,Tryz.ntmps145
    go_wp2_with fail
    generalize w.alloc (.cells #[.int .i64 N.lvl,.slice A n c,.slice B F G] 75)=w1 at W N1 z1 c0 c1 c2 t1 H1 B1 ⊢;refine (a1.out w1 B1).mono ?_;rintro e w2 ⟨rfl,b2⟩;have I:=W.trans (b2.mono (by omega));have H2:=H1.below b2;go_wp2_with fail
    refine (b0.out w2 H2).mono ?_;rintro e f2 ⟨rfl,rfl⟩;go_wp2_with fail
    refine (b3.out w2 I).mono ?_;rintro e E ⟨A1,n1,q1,a8,m1,d1,rfl,_,_,_,_,b4⟩;have b5:Below E.1.size E (E.alloc (.cells #[.int .i64 0,.slice none 0 0,.slice none 0 0] 75)):=Qm;have R5:NB (E.alloc (.cells #[.int .i64 0,.slice none 0 0,.slice none 0 0] 75)) E.1.size 0 none 0 0 none 0 0:=NB.new E _ _ _ _ _ _ _ _;have B4:=I.trans (b4.mono I.size);go_wp2_with (first
     |(refine Gt rfl _ _ rfl E.1.size rfl M0.lvl A1 n1 q1 a8 m1 d1 rfl R5 ?_;intro y R6 T6;have e7:(bkE (.node M)!=0)=false:=rfl)
     |fail)
    have B3:Below w.1.size w y:=(B4.trans (b5.mono B4.size)).trans (T6.below (λk hk=>by have:=B4.size;omega) (by have h1:=B4.size;have h2:=b5.size;omega));have z2:=b2.size;have z3:=B3.size;have N3:NB y w.1.size N.lvl A n c B F G:=by
     have N2:=N1.below b2 (by omega);have N4:=N2.below b4 N2.lt;have N5:=N4.below b5 N4.lt;have e3:=N5.lt;obtain⟨t,h⟩:=N5;exact⟨t,(T6.block w.1.size e3 (by have:=N4.lt;omega)).trans h⟩
    have L3:=L.below B3;have e5:=L3.c40;have t3:Tab y:=ht.below B3 ht.1;have d7:w.1.size≠m:=λe=>by have h1:=hT m (L.sub _ L.Xu.2.1);omega
    have hF:∀w',Below y.1.size y w'->w'.cell? ⟨p,40,none⟩=some (.map (some m))/\w'.cell? ⟨w.1.size,0,none⟩=some (.int .i64 N.lvl)/\w'.cell? ⟨w.1.size,1,none⟩=some (.slice A n c)/\w'.cell? ⟨w.1.size,2,none⟩=some (.slice B F G):=λw' K=>
     have N':=N3.below K N3.lt;⟨(K.cell (p:=⟨p,40,none⟩) (by show p<_;omega)).trans e5,N'.c0,N'.c1,N'.c2⟩
    have d5:∀w' (o:Obj),Below y.1.size y w'->(setBlock w' m o).cell? ⟨p,40,none⟩=some (.map (some m))/\(setBlock w' m o).cell? ⟨w.1.size,0,none⟩=some (.int .i64 N.lvl)/\(setBlock w' m o).cell? ⟨w.1.size,1,none⟩=some (.slice A n c)/\(setBlock w' m o).cell? ⟨w.1.size,2,none⟩=some (.slice B F G):=λw' o K=>by
     have hz:=K.size;have e9:=N3.lt;have TB:Turn (λk=>k=m) w' (setBlock w' m o):=q0p _ rfl;obtain⟨h1,h2,h3,h4⟩:=hF w' K;have e1:=TB.block p (by omega) L.p_m;have e2:=TB.block w.1.size (by omega) d7;exact⟨(World.cell?_of_block (a:=⟨p,40,none⟩) e1).trans h1,(World.cell?_of_block (a:=⟨w.1.size,0,none⟩) e2).trans h2,(World.cell?_of_block (a:=⟨w.1.size,1,none⟩) e2).trans h3,(World.cell?_of_block (a:=⟨w.1.size,2,none⟩) e2).trans h4⟩
    have BD:Below y.1.size y y.drew:=(Below.refl _ _).drew;have d3:=Lib.hid (λ(w':World) (K:Below y.1.size y w') (v':Value)=>(congrArg (λz:Nat=>Result.ok () (setBlock w' m (.map (Jy (k:Int) v' clock l).toArray z))) (if_neg U.out)).subst (motive:=λr=>(Instr.mapUpdate 101 (.map (some m)) (.int .i64 (k:Int)) v').run Tryz.prog w'=r) (q2u L.ents Tryz.underlying101 Tryz.underlying3 ((K.block m (by omega)).trans L3.map) (k:Int) v'));have BI:=B0.trans ((B3.trans (BD.mono B3.size)).mono B0.size);clear c0 c1 c2 H1 H2 R6 R5;go_wp2_with fail
    go_region_held3 (λw'=>w'.cell? ⟨p,40,none⟩=some (.map (some m))/\w'.cell? ⟨w.1.size,0,none⟩=some (.int .i64 N.lvl)/\w'.cell? ⟨w.1.size,1,none⟩=some (.slice A n c)/\w'.cell? ⟨w.1.size,2,none⟩=some (.slice B F G))
     (first|assumption|exact hF _ BD|exact hF _ a2|exact d5 _ _ a2)
     (first
      |(go_at_call 168;refine (qcc N (k:Int) 0 A n c B F G _ (hI.below BI) (hK.below BI) hn hm (t3.below BD t3.1)).mono ?_;rw[d2.out];rintro e E ⟨A3,n3,c3,rfl,Z,d9,d6⟩;have a2:Below y.1.size y E:=BD.trans d6;have f1:=d3.out E a2)
      |fail)
    obtain⟨q,rfl,rfl,rfl⟩:=d9 (by first|trivial|rfl);have hq:=(Z.block ⟨q,0,none⟩ rfl).1;obtain⟨R1,R2⟩:=L3.store (P':=⟨P.S,P.C,upd P.L k (some (.node N))⟩) (b:=.node N) (Turn.refl _ _) L3.ct a2 rfl rfl hk d0.out c9.out b8.out Z.sl (λh=>by have h1:=hT q h;have h2:y.drew.1.size=y.1.size:=rfl;have h3:y.drew.1.size<=q:=hq;omega);rw[if_neg U.out] at R1 R2;go_wp2;go_ret;exact⟨rfl,R1,(Qv (S:=S) B3).trans R2 λk hk=>.inl hk⟩
end
def Pl.cnt (P:Pl)(a:Nat):Nat:=(P.C.get (a:Int)).toNat
def Pl.names (P:Pl)(D:DM)(a:Nat):List Int:=(P.Qh D (a:Int)).named
def Pl.Uc (P:Pl)(D:DM)(H:List Int):Prop:=Jo P.C.n P.cnt (P.names D) H
theorem qaa {P:Pl}{a:Nat}(e:P.C.ok):1<=P.cnt a↔P.C.get (a:Int)≠0:=by
 have:=(Ct.Jc e (a:Int)).1;unfold Pl.cnt;omega
theorem qjv {P:Pl}(f:P.C.res):P.cnt 0=0:=by
 have h:P.C.get ((0:Nat):Int)=0:=by
  by_cases e:P.C.get ((0:Nat):Int)=0
  ·exact e
  ·have:=(Ct.Kw f e).2.2;have h2:P.C.first=2+2*Qe P.C.n:=rfl
   simp at this;omega
 unfold Pl.cnt;rw[h];rfl
theorem q2q (C:Ct){c:Nat}{x:Int}(b:Nat)(e:b<C.n):(C.put c x).get (b:Int)=if b=c then x else C.get (b:Int):=by
 unfold Ct.get;rw[C.Zi,if_pos (show 0<=(b:Int)/\(b:Int)<(C.n:Int) by omega),if_pos (show 0<=(b:Int)/\(b:Int)<(C.n:Int) by omega),Int.toNat_natCast,q6d C c x b e]
theorem qhy {P:Pl}{D:DM}{H:List Int}(h:P.Uc D H)(f:P.ok){S0:Sp}{F:Ct}(I:Sound D P S0 F)(y:∀a b,P.L a=some b->b.good)(E:∀a:Nat,a<P.C.n->P.C.get (a:Int)≠0->(P.store D (a:Int)).2=0):P.done.Uc (D.Qk P.steps) H:=by
 unfold Pl.Uc at h ⊢;refine Jo.same (n:=P.C.n) h (λ_ _=>rfl) (λb G u=>?_);have h0:=(qaa f.c).1 u;have:=q8j f I y (b:Int) (E b G h0);have e:(P.done.store (D.Qk P.steps) (b:Int)).1=(P.store D (b:Int)).1:=by rw[this]
 show (P.done.Qh (D.Qk P.steps) (b:Int)).named=(P.Qh D (b:Int)).named;exact congrArg Nd.named e
structure Kq (D:DM)(P:Pl)(S0:Sp)(C0:Ct):Prop where
 ok:P.ok
 sound:Sound D P S0 C0
 nodes:∀a b,P.L a=some b->∃N,b=.node N/\N.may=true
theorem Kq.kind {D:DM}{P:Pl}{S0:Sp}{C0:Ct}(h:Kq D P S0 C0):∀a b,P.L a=some b->b.kindOk:=λa b e=>by
 obtain⟨N,rfl,_⟩:=h.nodes a b e;exact trivial
theorem Kq.good {D:DM}{P:Pl}{S0:Sp}{C0:Ct}(h:Kq D P S0 C0):∀a b,P.L a=some b->b.good:=λa b e=>by
 obtain⟨N,rfl,hm⟩:=h.nodes a b e;exact q6r hm
theorem Kq.put {D:DM}{P:Pl}{S0:Sp}{C0:Ct}(h:Kq D P S0 C0){N:Nd}(hN:N.may=true)(hf:0<P.C.free):Kq D (P.Zn N) S0 C0/\P.Jq N=0/\(P.Zn N).C.free+1=P.C.free:=by
 obtain⟨c,f⟩:=Ct.Ul hf;obtain⟨_,E,v3⟩:=q6s f hN;have u:=Ct.Uz f;have y:(P.Zn N).C=P.C.alloc:=by rw[v3,q37 f]
 refine⟨⟨by rw[v3];exact qo0 h.ok (qa7 hN),by rw[v3];exact qo2 h.sound _,λa b e=>?_⟩,E,by rw[y];exact u⟩;rw[v3,qfc f] at e;split at e
 ·obtain rfl:=Option.some.inj e;exact⟨N,rfl,hN⟩
 ·exact h.nodes a b e
def Zb (R:Int->Nd × Int)(root:Int)(its:List Qc):Prop:=(its=[]/\root=0)\/∃l,l<=6/\Qp R l root its/\1<=root/\root<2048
structure Lvl (D:DM)(its:List Qc)(f l:Nat)(P:Pl)(Ns:List Nd):Prop where
 Qa9:∃rows,Qa5 l (P.store D) Ns rows/\rows.flatten=its
 ok:P.ok
 free:2*Ns.length+10<=P.C.free
 one:1<=Ns.length
 fuel:l+f<=6
 need:1<=f/\(2<=Ns.length->2<=f)/\(13<=Ns.length->3<=f)/\Ns.length<=66
def Ub (R:Int->Nd × Int)(a:Int):Nat:=(R a).1.lvl.toNat
def Bl (R:Int->Nd × Int)(k:Kd)(root:Int):List UInt8 × Int:=if root=0 then ([],10) else Aj R k (Ub R root) root
theorem Fq {R:Int->Nd × Int}:∀{l:Nat} {a:Int} {its:List Qc},Qp R l a its->Ub R a=l/\(R a).1.lvl=(l:Int)/\(R a).2=0
 |0,a,its,h=>by
  unfold Ub;rw[h.1];exact⟨rfl,rfl,rfl⟩
 |l+1,a,its,h=>by
  obtain⟨kids,parts,h1,_⟩:=h;unfold Ub;rw[h1];exact⟨Int.toNat_natCast _,rfl,rfl⟩
theorem qjx {R:Int->Nd × Int}{root:Int}{its:List Qc}(h:Zb R root its)(e:Qd its)(k:Kd):Bl R k root=Gl (valOf its k):=by
 unfold Bl;rcases h with⟨rfl,rfl⟩|⟨l,_,h,h1,_⟩
 ·rw[if_pos rfl];rfl
 ·rw[if_neg (by omega),(Fq h).1,qfg k l root its h e]
theorem qcg {ks:List Kd}(h:rises ks=true):∀(j i:Nat),i<j->j<ks.length->(keyAt ks i).less (keyAt ks j)=true
 |0,i,hi,_=>absurd hi (Nat.not_lt_zero _)
 |j+1,i,hi,hj=>by
  have h1:Wx ks (j+1)=true:=by
   unfold rises at h;rw[List.all_eq_true] at h;exact h _ (List.mem_range.2 hj)
  have h2:(keyAt ks j).less (keyAt ks (j+1))=true:=by
   unfold Wx at h1;simp at h1;exact h1.2
  by_cases e:i=j
  ·rw[e];exact h2
  ·exact Kd.trans _ _ _ (qcg h j i (by omega) (by omega)) h2
theorem q1r {N:Nd}(hm:N.may=true)(h0:N.lvl=0):N=⟨0,N.items,[]⟩/\Qd N.items/\1<=N.items.length/\N.items.length<=6:=by
 have H:=(Nj hm).1 h0;unfold Nd.may at hm;rw[if_pos h0,Bool.and_eq_true,Bool.and_eq_true] at hm;obtain⟨_,h2,f⟩:=hm;have f:=of_decide_eq_true f;refine⟨by cases N;simp_all,?_,f.2⟩;have G:N.keys=N.items.map (·.k):=by unfold Nd.keys;rw[H];simp
 rw[G] at h2;unfold Qd;rw[List.pairwise_iff_getElem];intro i j E y u;have:=qcg h2 j i u (by rw[List.length_map];exact y);rw[q18 _ E,q18 _ y] at this;have e:∀q (F:q<N.items.length),Qj N.items q=N.items[q]:=λq F=>by unfold Qj;rw[List.getD_eq_getElem?_getD,List.getElem?_eq_getElem F];rfl
 rwa [e i E,e j y] at this
theorem Py {N:Nd}(hm:N.may=true)(h0:N.lvl≠0):N=⟨N.lvl,[],N.kids⟩/\1<=N.lvl/\N.lvl<8/\2<=N.kids.length/\N.kids.length<=12/\∀k,N.Za k<N.kids.length:=by
 have H:=(Nj hm).2 h0;unfold Nd.may at hm;rw[if_neg h0,Bool.and_eq_true,Bool.and_eq_true] at hm;obtain⟨_,h2,G⟩:=hm;obtain⟨u,y,_,E,F⟩:=of_decide_eq_true G;refine⟨by cases N;simp_all,u,y,E,F,λk=>?_⟩;have f:N.keys=N.kids.map (·.k):=by unfold Nd.keys;rw[H];simp
 unfold Nd.Za;rw[if_neg h0,f,List.length_map];rcases q75 (N.kids.map (·.k)) k N.kids.length with e|e<;>omega
structure Pl.Ui (P:Pl)(D:DM):Prop where
 err:∀a:Nat,a<P.C.n->P.C.get (a:Int)≠0->P.Zh D (a:Int)=0
 may:∀a:Nat,a<P.C.n->P.C.get (a:Int)≠0->(P.Qh D (a:Int)).may=true
 bare:∀a:Nat,a<P.C.n->P.C.get (a:Int)≠0->∀x∈(P.Qh D (a:Int)).items,Ko x=none
 kids:∀a:Nat,a<P.C.n->P.C.get (a:Int)≠0->∀x∈(P.Qh D (a:Int)).kids,∃c:Nat,x.a=(c:Int)/\0<c/\c<P.C.n/\P.C.get (c:Int)≠0/\(P.Qh D (c:Int)).lvl+1=(P.Qh D (a:Int)).lvl/\(P.Qh D (c:Int)).least=x.k
def Pl.Oa (P:Pl)(D:DM)(a:Nat):Nat:=if P.C.get (a:Int)=0 then 0 else (P.Qh D (a:Int)).lvl.toNat+1
theorem qe3 {N:Nd}(h:N.may=true):0<=N.lvl/\N.lvl<8:=by
 by_cases h0:N.lvl=0
 ·omega
 ·have:=(Py h h0).2;omega
section
variable {P:Pl}{D:DM}
theorem q8k (h:P.Ui D){b:Nat}(e:b<P.C.n)(h0:P.C.get (b:Int)≠0):P.names D b=(P.Qh D (b:Int)).kids.map (·.a):=by
 unfold Pl.names Nd.named;rw[List.filterMap_eq_nil_iff.2 (h.bare b e h0),List.append_nil]
theorem qmb (h:P.Ui D){b a:Nat}(f:b<P.C.n)(h0:P.C.get (b:Int)≠0)(hm:(a:Int)∈P.names D b):0<a/\a<P.C.n/\P.C.get (a:Int)≠0/\(P.Qh D (a:Int)).lvl+1=(P.Qh D (b:Int)).lvl:=by
 rw[q8k h f h0] at hm;obtain⟨x,F,e⟩:=List.mem_map.1 hm;obtain⟨c,h1,h2,u,y,E,_⟩:=h.kids b f h0 x F;have:a=c:=by rw[h1] at e;omega
 subst this;exact⟨h2,u,y,E⟩
theorem qmc (h:P.Ui D)(u:P.C.ok)(b a:Nat)(f:b<P.C.n)(h1:1<=P.cnt b)(hm:(a:Int)∈P.names D b):P.Oa D a<P.Oa D b:=by
 have h0:=(qaa u).1 h1;obtain⟨_,y,e,E⟩:=qmb h f h0 hm;have F:=qe3 (h.may a y e);unfold Pl.Oa;rw[if_neg h0,if_neg e];omega
theorem qwc (h:P.Ui D)(b:Nat):P.Oa D b<=8:=by
 unfold Pl.Oa;by_cases h0:P.C.get (b:Int)=0
 ·rw[if_pos h0];omega
 ·rw[if_neg h0];obtain⟨c,e,f⟩:=Ae h0;have e:b=c:=by omega
  subst e;have u:=qe3 (h.may b f h0);omega
theorem qbp {H:List Int}(Q:P.Uc D H)(h:P.Ui D)(J:P.C.ok)(f:P.C.res){S:Nat->Prop}(M:∀a:Nat,0<a->a<P.C.n->(a:Int)∈H->S a)
  (K:∀b a:Nat,0<b->b<P.C.n->0<a->a<P.C.n->P.C.get (b:Int)≠0->S b->(∃x∈(P.Qh D (b:Int)).kids,x.a=(a:Int))->S a) (a:Nat) (h1:a<P.C.n) (h2:P.C.get (a:Int)≠0):S a:=by
 have G:1<=P.cnt a:=(qaa J).2 h2;have u:0<a:=by
  rcases Nat.eq_zero_or_pos a with e|e
  ·subst e;have:=qjv f;omega
  ·exact e
 exact Jo.reached Q (B:=8) (P.Oa D) (λb a E y hm=>qmc h J b a E y hm) (qwc h) (qjv f) M (λb a I E u O y F hm=>by
  have h0:=(qaa J).1 y;rw[q8k h E h0] at hm;obtain⟨x,R,e⟩:=List.mem_map.1 hm;exact K b a I E u O h0 F ⟨x,R,e⟩) (8-P.Oa D a) a (Nat.le_refl _) u h1 G
end
section
variable {b:Nat}{w w':World}{d p:Nat}{S0 S T S':Nat->Prop}{D:DM}{P:Pl}
theorem Qi.below (H:Qi b w d p S0 S T D P)(hb:Below w.1.size w w'):Qi b w' d p S0 S T D P:=
 ⟨H.U8.below hb,H.pool.below hb,H.sub,H.apart,λk e=>⟨(H.tight k e).1,by have:=(H.tight k e).2;have:=hb.size;omega⟩⟩
theorem Qi.more (H:Qi b w d p S0 S T D P)(hb:Below w.1.size w w'):Qi b w' d p S0 S (grow T w w') D P:=by
 have u:=H.base;have f:=H.Cj;have y:=hb.size;refine⟨H.U8.below hb,(H.pool.mono (S':=S) (T':=grow T w w') (λk _ h=>h) (λk e h=>?_) (λk h=>⟨.inl (f k h),by have:=(H.tight k (f k h)).2;omega⟩)).below hb,λk e=>⟨.inl (H.sub k e),by have:=(H.tight k (H.sub k e)).2;omega⟩,H.apart,λk e=>⟨e.1.elim (λh=>(H.tight k h).1) λh=>by omega,e.2⟩⟩;exact h.1.elim id λh=>by omega
theorem Qi.own (H:Qi b w d p S0 S T D P)(t:Turn S' w w')(hT:∀k,S' k->T k)(h0:∀k,S' k->¬S0 k)(h1:∀k,S' k->¬S k):Qi b w' d p S0 S T D P:=
 ⟨H.U8.keep λk e f=>t.block k e λh=>h0 k h f,H.pool.other t hT h1,H.sub,H.apart,λk e=>⟨(H.tight k e).1,by have:=(H.tight k e).2;have:=t.size;omega⟩⟩
theorem Qi.sys (H:Qi b w d p S0 S T D P):Sys b w d p T D P:=⟨S0,S,H⟩
theorem qqn (H:Qi b w d p S0 S T D P)(M:1<b)(G:Tab w){I:Nat}(F:D.Ya I)(E:I<=500000)(y:P.g<1099511627775) :
  Calls Tryz.prog 23 #[.pointer (some ⟨p,0,none⟩)] w λe w'=>e=.returned (.int .i64 (D.Lu P))/\Qi b w' d p (grow S0 w w') S (grow T w w') (D.Qk P.steps) (D.Md P)/\Turn (λk=>S0 k\/S k) w w'/\Tab w':=by
 have u:=H.Cj;have K:=H.base;refine (qhx H.U8 H.pool H.sub H.apart (λk f=>(H.tight k f).2) (λh=>by have:=(H.tight _ h).1;omega) G F E y).mono ?_;rintro e w' ⟨rfl,R,Q,X⟩;have O:=X.size;have J:∀k,S0 k\/S k->T k:=λk f=>f.elim (H.sub k) (u k)
 refine⟨rfl,⟨R.tight,?_,λk f=>⟨f.1.imp (H.sub k) id,f.2⟩,λk f h=>?_,λk f=>⟨f.1.elim (λh=>(H.tight k h).1) λh=>by omega,f.2⟩⟩,X,G.turned X λh=>by have:=(H.tight _ (J _ h)).1;omega⟩
 ·exact Q.mono (λk _ h=>h) (λk f h=>h.1) λk f=>⟨.inl (u k f),by have:=(H.tight k (u k f)).2;omega⟩
 ·exact f.1.elim (λh2=>H.apart k h2 h) λh2=>by have:=(H.tight k (u k h)).2;omega
end
def Gg (w:World)(base:Nat)(A:Option Addr)(n c:Nat)(an:List Nat):Prop:=Qs w base 3 1 A n c (an.map λ(a:Nat)=>[.int .i64 (a:Int)])
section
variable {w w':World}{base:Nat}{A:Option Addr}{n c:Nat}{an:List Nat}
theorem Gg.len (h:Gg w base A n c an):an.length=n:=by
 have:=Qs.len h (by omega);rw[List.length_map] at this;omega
theorem Gg.cell (h:Gg w base A n c an){i:Nat}(hi:i<n):∃e a,A=some e/\an[i]?=some a/\w.cell? (e.add i)=some (.int .i64 (a:Int))/\e.block<w.1.size:=by
 have F:=h.len;have E:=Qs.Vs h (by omega);obtain⟨g,o,f,u,_,y⟩:=E.2.2.2 i _ (List.getElem?_eq_getElem (by rw[List.length_map];omega));have h0:=y 0 (.int .i64 ((an[i]'(by omega):Nat):Int)) (by rw[List.getElem_map];rfl);rw[Nat.mul_one,Nat.add_zero] at h0;exact⟨⟨g,o,none⟩,_,f,List.getElem?_eq_getElem (by omega),by rw[Addr.add_mid];exact h0,u⟩
theorem Gg.cap (h:Gg w base A n c an):n<=c/\c<=maxLen:=by
 have e:=Qs.Vs h (by omega);exact⟨e.cap,e.max⟩
end
theorem qpa {b:List UInt8}{a:Int}{N:Nd}(h:Qz b a=some N):N.may=true:=by
 unfold Qz at h;split at h
 ·unfold Dh at h
  cases f:Jt (Yq b).level (Un b) (Yq b).count.toNat with
  |none=>rw[f] at h;cases h
  |some x=>
   obtain⟨M,r⟩:=x;rw[f] at h;dsimp only at h;by_cases e:(Yq b).kind=(if (Yq b).level=0 then 3 else 4)/\(Yq b).addr=a/\Y3 r=true/\M.may=true
   ·rw[if_pos e] at h;obtain rfl:=Option.some.inj h;exact e.2.2.2
   ·rw[if_neg e] at h
    cases h
 ·cases h
theorem qpb {P:Pl}{D:DM}(F:∀a b,P.L a=some b->b.good)(a:Int)(h:(P.store D a).2=0):(P.store D a).1.may=true:=by
 obtain⟨n,rfl,hn,h0⟩:=q4q h
 cases y:P.live n with
 |some b=>
  obtain⟨N,rfl,e⟩:=qcf h0 y h;rw[e];exact q45 (F n _ (q93 y).2)
 |none=>
  have f:P.Zh D (n:Int)=0:=h;unfold Pl.Zh at f;rw[if_neg h0,Int.toNat_natCast,y] at f;dsimp only at f;by_cases u:D.Ym (n:Int)=0
  ·rw[q7s h0 y u];rw[if_pos u] at f;unfold Xz at f;unfold X0
   cases E:Qz (D.Yu (n:Int)) (n:Int) with
   |some N=>exact qpa E
   |none=>rw[E] at f;simp at f
  ·rw[if_neg u] at f;exact absurd f u
structure Src (w0:World)(p:Nat)(R:Int->Nd × Int):Prop where
 node:∀u,Below w0.heap.size w0 u->Tab u->∀a,Calls Tryz.prog 35 #[.pointer (some ⟨p,0,none⟩),.int .i64 a] u λe w'=>q68 (R a).1 (R a).2 u e w'
 may:∀a,(R a).2=0->(R a).1.may=true
theorem qvb {w:World}{p d:Nat}{S0 S T:Nat->Prop}{D:DM}{P:Pl}(f:Y9 w d S0 D)(H:Pool w p d S T P)(y:∀a b,P.L a=some b->b.kindOk)(u:∀a b,P.L a=some b->b.good):Src w p (P.store D):=
 ⟨λ_ e E a=>qa5 (f.below e) (H.below e) y E a,λa h=>qpb u a h⟩
