/- The code's pool: Commit -/
import Derived.Test.YthkfkhejjmhomaaGreatDoorPoS
import Derived.Test.YthkfkhejjmhomaaGreatDoorDb25
import Derived.Test.YthkfkhejjmhomaaGreatDoorDb26
namespace Go.Proofs.YthkfkhejjmhomaaGreatDoor
open Go Go.RowKit Go.Proofs
set_option maxHeartbeats 4000000
set_option maxRecDepth 100000
section
open Go.ChangeMaps (setBlock)
section
variable {w w1:World}{p d m clock:Nat}{cur:Array Value}{l:List MapEntry}{v:Nat->Value}{Sc S T:Nat->Prop}{P:Pl}
theorem PL.apart {S0:Nat->Prop}(L:PL w p d m cur l clock v Sc S T P)(hSS:∀k,S0 k->¬S k):∀k,S0 k->k≠p/\¬Sc k:=λk f=>⟨λe=>hSS k f (e▸L.Yn.1),λh=>hSS k f (L.Yn.2.2 k h)⟩
end
attribute [local go_sem ↓] q1n q4s
end
section
theorem qtt (C:Ct)(a:Int)(c:Nat)(u:C.ok):(C.ref a).get (c:Int)=0↔C.get (c:Int)=0:=by
 by_cases h:C.Y4 a=0
 ·have f:C.ref a=C.put a.toNat (C.get a+1):=by unfold Ct.ref;rw[if_pos h]
  have h0:C.get a≠0:=λe=>by unfold Ct.Y4 at h;rw[if_pos e] at h;omega
  have H:0<=a/\a<(C.n:Int):=Classical.byContradiction λh2=>h0 (by unfold Ct.get;rw[if_neg h2])
  have I:=C.Zv u a;obtain⟨V,F⟩:∃V,C.get a+1=V:=⟨_,rfl⟩;rw[f,F];by_cases G:c<C.n
  ·have h1:(C.put a.toNat V).get (c:Int)=nm (C.put a.toNat V).now c:=by unfold Ct.get;rw[C.Zh,if_pos (by omega),Int.toNat_natCast]
   have h2:C.get (c:Int)=nm C.now c:=by unfold Ct.get;rw[if_pos (by omega),Int.toNat_natCast]
   rw[h1,q5r _ _ _ _ G];by_cases e:c=a.toNat
   ·have E:(c:Int)=a:=by omega
    rw[if_pos e,E];constructor
    ·intro y;omega
    ·intro y;exact absurd y h0
   ·rw[if_neg e,h2]
  ·have h1:(C.put a.toNat V).get (c:Int)=0:=by unfold Ct.get;rw[C.Zh,if_neg (by omega)]
   have h2:C.get (c:Int)=0:=by unfold Ct.get;rw[if_neg (by omega)]
   rw[h1,h2]
 ·have f:C.ref a=C:=by unfold Ct.ref;rw[if_neg h]
  rw[f]
theorem qz3 {P:Pl}(h:P.ok)(a:Int):Pl.ok ⟨P.S,P.C.ref a,P.L⟩:=
 ⟨Ct.Qaj h.c a,Ct.Qak h.res a,h.may,by show P.S.Qa=((P.C.ref a).n:Int);rw[Ct.Qat];exact h.sec,h.gen,h.fine⟩
theorem qtu {w:World}{p d:Nat}{S T:Nat->Prop}{P:Pl}(H:Pool w p d S T P)(a:Int) :
  Calls Tryz.prog 74 #[.pointer (some ⟨p,0,none⟩),.int .i64 a] w λe w'=>e=.returned (.int .i64 (P.C.Y4 a))/\Pool w' p d S T ⟨P.S,P.C.ref a,P.L⟩/\Turn S w w':=by
 have f:=H.ok;obtain⟨m,cur,l,clock,v,Sc,L⟩:=H;have u:=qsv L.ct a;have M:=L.F8;have y:=Lib.hid (qz3 f a);have K:=Lib.hid (λc=>qtt P.C a c f.c);obtain⟨E,I⟩:∃E,P.C.Y4 a=E:=⟨_,rfl⟩;rw[I] at u ⊢;have F:=Lib.hid u;clear u I f;go_enter Tryz.func74,Tryz.ntmps74
 go_wp2_with fail
 refine F.out.mono ?_;rintro e w1 ⟨rfl,J,G⟩;have R:=L.Qbi G J (Ct.Qat _ _) (λc=>K.out c) y.out;go_wp2;go_ret;exact⟨rfl,⟨m,cur,l,clock,v,Sc,R⟩,G.mono L.Yn.2.2⟩
theorem q7c {w:World}{p d:Nat}{S T:Nat->Prop}{P:Pl}(H:Pool w p d S T P)(a:Int)(r:Bool)(u:P.C.fresh a=r) :
  Calls Tryz.prog 236 #[.pointer (some ⟨p,0,none⟩),.int .i64 a] w λe w'=>e=.returned (.bool r)/\w=w':=by
 obtain⟨m,cur,l,clock,v,Sc,L⟩:=H;have f:=qlh L.ct a r u;go_enter Tryz.func236,Tryz.ntmps236
 go_wp2_with fail
 refine f.mono ?_;rintro e w1 ⟨rfl,rfl⟩;go_wp2;go_ret;exact⟨rfl,rfl⟩
attribute [local go_sem ↓] q1n
end
section
open Go.ChangeMaps (setBlock)
theorem q6k {N:Nd}(hm:N.may=true){a:Nat}{g:Int}(G:a<=2047)(u:Lj g):Zg N (a:Int) g=0/\Jp N (a:Int) g=Zn (N.head (a:Int) g) N.body/\(N.head (a:Int) g).ok=true:=by
 have e:Zg N (a:Int) g=0:=Classical.byContradiction λh=>by
  have h2:=(qth hm h).2;have E:=u.1;have F:=u.2;omega
 refine⟨e,?_⟩;unfold Zg at e;rw[if_pos hm] at e;obtain⟨f,_,y⟩:=q6b _ _ e;refine⟨?_,f⟩;unfold Jp;rw[if_pos hm,y]
theorem q4c {N:Nd}(hm:N.may=true):(Bk.node N).good:=⟨λ_ _ e f=>(q6k hm e f).2.2,qov hm,λ_ _ e f=>(q6k hm e f).2.1⟩
def Pl.Yz (P:Pl)(N:Nd):Int:=if N.may=true then P.C.U4 else 0
def Pl.Jk (P:Pl)(N:Nd):Int:=if N.may=true then P.C.U3 else 1
def Pl.Jj (P:Pl)(N:Nd):Pl:=if N.may=true then P.lay (.node N) else P
end
section
open Go.ChangeMaps (setBlock)
theorem Gq {C:Ct}{a:Int}(h:C.get a≠0):∃n:Nat,a=(n:Int)/\n<C.n:=by
 have e:0<=a/\a<(C.n:Int):=Classical.byContradiction λh2=>h (by unfold Ct.get;rw[if_neg h2])
 exact⟨a.toNat,by omega,by omega⟩
end
structure Qg (b:Nat)(w:World)(d p:Nat)(S0 S T:Nat->Prop)(D:DM)(P:Pl):Prop where
 Az:Wu w d S0 D
 pool:Pool w p d S T P
 sub:∀k,S0 k->T k
 apart:∀k,S0 k->¬S k
 tight:∀k,T k->b<=k/\k<w.heap.size
def Sys (b:Nat)(w:World)(d p:Nat)(T:Nat->Prop)(D:DM)(P:Pl):Prop:=∃S0 S,Qg b w d p S0 S T D P
def grow (T:Nat->Prop)(w w':World):Nat->Prop:=λk=>(T k\/w.1.size<=k)/\k<w'.1.size
def Dr (b:Nat)(w:World)(d:Nat)(T:Nat->Prop)(D:DM):Prop:=∃S0,Wu w d S0 D/\(∀k,S0 k->T k)/\∀k,T k->b<=k/\k<w.1.size
section
variable {b:Nat}{w w':World}{d p:Nat}{T:Nat->Prop}{D:DM}{P:Pl}
theorem Qg.Aw {S0 S:Nat->Prop}(H:Qg b w d p S0 S T D P):∀k,S k->T k:=by
 obtain⟨m,cur,l,clock,v,Sc,L⟩:=H.pool;exact L.sub
theorem Qg.base {S0 S:Nat->Prop}(H:Qg b w d p S0 S T D P):b<=w.1.size:=by
 obtain⟨m,cur,l,clock,v,Sc,L⟩:=H.pool;have:=(H.tight _ (L.sub _ L.Yn.1)).1;have:=L.F8;omega
theorem Sys.below (H:Sys b w d p T D P)(hb:Below w.1.size w w'):Sys b w' d p T D P:=by
 obtain⟨S0,S,H⟩:=H;exact⟨S0,S,H.Az.below hb,H.pool.below hb,H.sub,H.apart,λk e=>⟨(H.tight k e).1,by have:=(H.tight k e).2;have:=hb.size;omega⟩⟩
theorem Sys.ok (H:Sys b w d p T D P):P.ok:=by
 obtain⟨S0,S,H⟩:=H;exact H.pool.ok
theorem Sys.tight (H:Sys b w d p T D P):∀k,T k->b<=k/\k<w.1.size:=by
 obtain⟨S0,S,H⟩:=H;exact H.tight
theorem Sys.base (H:Sys b w d p T D P):b<=w.1.size:=by
 obtain⟨S0,S,H⟩:=H;exact H.base
theorem Dr.below (H:Dr b w d T D)(hb:Below w.1.size w w'):Dr b w' d T D:=by
 obtain⟨S0,H,h1,h2⟩:=H;exact⟨S0,H.below hb,h1,λk e=>⟨(h2 k e).1,by have:=(h2 k e).2;have:=hb.size;omega⟩⟩
theorem qz4 {u w:World}{d p q:Nat}{S0:Nat->Prop}{D:DM}{P:Pl}(H:P8 u w p d q S0 D P)(f:∀k,S0 k->b<=k)(y:b<=u.1.size):Sys b w d p (λk=>b<=k/\k<w.1.size) D P:=by
 refine⟨λk=>(S0 k\/u.1.size<=k)/\k<q,λk=>q<=k/\k<w.1.size,H.Az,?_,λk e=>?_,λk e h=>?_,λk e=>e⟩
 ·have h:=H.pool (λk=>b<=k) (λk e=>by have:=H.ge.1;omega);exact h.mono (λk e h=>⟨h,e⟩) (λk e h=>h.1) λk e=>⟨by have:=H.ge.1;omega,e.2⟩
 ·have:=H.ge.2;exact⟨e.1.elim (f k) λh=>by omega,by omega⟩
 ·omega
end
theorem q8v {P:Pl}{a:Nat}{b:Bk}(h:P.live a=some b):P.C.get (a:Int)≠0/\P.L a=some b:=by
 unfold Pl.live at h;split at h
 ·cases h
 ·rename_i h0;exact⟨h0,h⟩
theorem qz5 {n:Nat}(h:n<=2048):(Xq n).length<=30:=by
 rw[qom];unfold Qh;omega
def qp4 (M:Nd)(E:Int)(w:World)(e:Ending)(w':World):Prop:=
 ∃y u c1 F f G,e=.returned (.tuple #[.agg #[.int .i64 M.lvl,.slice y u c1,.slice F f G],.int .i64 E])/\u<=20/\f<=20/\Jg w' y u c1 M.items/\Zk w' F f G M.kids/\Below w.1.size w w'
def q5v (M:Nd)(E:Int)(w:World)(e:Ending)(w':World):Prop:=
 ∃y u c1 F f G,e=.returned (.tuple #[.agg #[.int .i64 M.lvl,.slice y u c1,.slice F f G],.int .i64 E])/\u<=20/\f<=20/\J4 w' w.1.size y u c1 M.items/\Qr w' w.1.size 148 4 F f G (M.kids.map Qj.vs)/\Below w.1.size w w'
theorem q5v.ans {M:Nd}{E:Int}{w:World}{e:Ending}{w':World}(h:q5v M E w e w'):qp4 M E w e w':=by
 obtain⟨f,K,c1,u,J,y,h1,h2,F,G,H,I⟩:=h;exact⟨f,K,c1,u,J,y,h1,h2,F,G.Yc,H.Uo (by omega),I⟩
def Zp:Nd:=⟨0,[],[]⟩
def Xi (x:List UInt8)(a o:Int):Int:=if (Ze x a).isSome=true then 0 else o
def Xk (x:List UInt8)(a:Int):Nd:=(Ze x a).getD Zp
theorem qhm {w:World}{f:Addr}{u:Array Value}{t:TypeId}{v:Value}(h:w.1[f.block]?=some (.cells u t (0,0)))(e:w.cell? f=some v):u[f.off]?=some v:=by
 unfold World.cell? at e;rw[h] at e;dsimp only at e;split at e
 ·cases e
 ·exact e
section
variable {w w':World}{b n c m d:Nat}{l:Int}{A B:Option Addr}
end
theorem qfe {w:World}{p:Nat}{a E o:Int}(M:E≠0)(f:∀u,Below w.1.size w u->Calls Tryz.prog 83 #[.pointer (some ⟨p,0,none⟩),.int .i64 a] u λe w'=>∃A n c,e=.returned (.tuple #[.slice A n c,.int .i64 o,.int .i64 E])/\Below u.1.size u w') :
  Calls Tryz.prog 37 #[.pointer (some ⟨p,0,none⟩),.int .i64 a] w λe w'=>q5v Zp E w e w':=by
 have R:(E==0)=false:=by simpa using M
 have H:NB (w.alloc (.cells #[.int .i64 0,.slice none 0 0,.slice none 0 0] 77)) w.1.size 0 none 0 0 none 0 0:=NB.new w _ _ _ _ _ _ _ _;have F:Below w.1.size w (w.alloc (.cells #[.int .i64 0,.slice none 0 0,.slice none 0 0] 77)):=Qk;have O:(w.alloc (.cells #[.int .i64 0,.slice none 0 0,.slice none 0 0] 77)).1.size=w.1.size+1:=by simp
 have y:=Lib.hid f;clear f;go_enter Tryz.func37,Tryz.ntmps37
 go_wp2_with fail
 generalize w.alloc (.cells #[.int .i64 0,.slice none 0 0,.slice none 0 0] 77)=w1 at F H O ⊢;refine (y.out w1 F).mono ?_;rintro e U ⟨A,n,c,rfl,G⟩;have I:=H.below G (by omega);go_wp2_with (first
  |(refine Gp rfl _ _ rfl w.1.size rfl 0 none 0 0 none 0 0 rfl I ?_;intro W J K)
  |fail)
 refine bodyPost_ret (Ak Tryz.results37 rfl (He J)) rfl ?_;have X:=G.size;exact⟨none,0,0,none,0,0,rfl,by omega,by omega,Ox _ _,Lu _ _ _ _,(F.trans (G.mono (by omega))).trans (K.below (λk Q=>by omega) (by omega))⟩
theorem qbt {w:World}{p:Nat}{a o:Int}{x:List UInt8}(ht:Tab w)(J:∀u,Below w.1.size w u->Calls Tryz.prog 83 #[.pointer (some ⟨p,0,none⟩),.int .i64 a] u λe w'=>∃A n c,e=.returned (.tuple #[.slice A n c,.int .i64 o,.int .i64 0])/\Sl w' A n c x/\Below u.1.size u w') :
  Calls Tryz.prog 37 #[.pointer (some ⟨p,0,none⟩),.int .i64 a] w λe w'=>q5v (Xk x a) (Xi x a o) w e w':=by
 have R1:NB (w.alloc (.cells #[.int .i64 0,.slice none 0 0,.slice none 0 0] 77)) w.1.size 0 none 0 0 none 0 0:=NB.new w _ _ _ _ _ _ _ _;have Q:Below w.1.size w (w.alloc (.cells #[.int .i64 0,.slice none 0 0,.slice none 0 0] 77)):=Qk;have z1:(w.alloc (.cells #[.int .i64 0,.slice none 0 0,.slice none 0 0] 77)).1.size=w.1.size+1:=by simp
 have t1:=ht.below Q ht.1;have I:=Lib.hid J;clear J
 cases K:Ze x a with
 |none=>
  have e1:Xk x a=Zp:=by unfold Xk;rw[K];rfl
  have e2:Xi x a o=o:=by unfold Xi;rw[K];rfl
  rw[e1,e2];have f:=λ(A:Option Addr) (n c:Nat) (y:World) (U:Sl y A n c x) (W:Tab y)=>qf6 A n c x a y U W
  unfold q3s at f;rw[K] at f;have O:=Lib.hid f;clear f K e1 e2;go_enter Tryz.func37,Tryz.ntmps37
  go_wp2_with fail
  generalize w.alloc (.cells #[.int .i64 0,.slice none 0 0,.slice none 0 0] 77)=w1 at Q R1 z1 t1 ⊢;refine (I.out w1 Q).mono ?_;rintro e y ⟨A,n,c,rfl,U,G⟩;have R2:=R1.below G (by omega);have W:=t1.below G t1.1;have z2:=G.size;go_wp2_with fail
  refine (O.out A n c y U W).mono ?_;rintro e F ⟨X,n1,c1,Y,m1,Z,rfl,a2,a1,hI,hK,R⟩;have z3:=R.size;have R3:=R2.below R (by omega);have M:=Q.trans ((G.trans (R.mono z2)).mono (by omega));go_wp2_with (first
   |(refine Gp rfl (.tmp 4) (.tmp 29) rfl w.1.size rfl 0 none 0 0 none 0 0 rfl (R3.below (E:=F.1.size) (Qk) (by omega)) ?_;intro w5 R5 T5)
   |fail)
  refine bodyPost_ret (Ak Tryz.results37 rfl (He R5)) rfl ?_;have H:Below F.1.size F (F.alloc (.cells #[.int .i64 0,.slice X n1 c1,.slice Y m1 Z] 77)):=Qk;exact⟨none,0,0,none,0,0,rfl,by omega,by omega,Ox _ _,Lu _ _ _ _,(M.trans (H.mono M.size)).trans (T5.below (λk hk=>by omega) (by have:=M.size;have:=H.size;omega))⟩
 |some N=>
  have e1:Xk x a=N:=by unfold Xk;rw[K];rfl
  have e2:Xi x a o=0:=by unfold Xi;rw[K];rfl
  rw[e1,e2];have f:=λ(A:Option Addr) (n c:Nat) (y:World) (U:Sl y A n c x) (W:Tab y)=>qf6 A n c x a y U W
  unfold q3s at f;rw[K] at f;have O:=Lib.hid f;clear f K e1 e2;go_enter Tryz.func37,Tryz.ntmps37
  go_wp2_with fail
  generalize w.alloc (.cells #[.int .i64 0,.slice none 0 0,.slice none 0 0] 77)=w1 at Q R1 z1 t1 ⊢;refine (I.out w1 Q).mono ?_;rintro e y ⟨A,n,c,rfl,U,G⟩;have R2:=R1.below G (by omega);have W:=t1.below G t1.1;have z2:=G.size;go_wp2_with fail
  refine (O.out A n c y U W).mono ?_;rintro e F ⟨X,n1,c1,Y,m1,Z,rfl,a2,a1,hI,hK,R⟩;have hI:J4 F y.1.size X n1 c1 N.items:=hI;have hK:Qr F y.1.size 148 4 Y m1 Z (N.kids.map Qj.vs):=hK;have hl:((some N:Option Nd).getD ⟨0,[],[]⟩).lvl=N.lvl:=rfl;simp only[hl];have z3:=R.size;have R3:=R2.below R (by omega);have M:=Q.trans ((G.trans (R.mono z2)).mono (by omega));have H:Below F.1.size F (F.alloc (.cells #[.int .i64 N.lvl,.slice X n1 c1,.slice Y m1 Z] 77)):=Qk;go_wp2_with (first
   |(refine Gp rfl (.tmp 4) (.tmp 31) rfl w.1.size rfl N.lvl X n1 c1 Y m1 Z rfl (R3.below H (by omega)) ?_;intro w5 R5 T5)
   |fail)
  refine bodyPost_ret (Ak Tryz.results37 rfl (He R5)) rfl ?_;exact⟨X,n1,c1,Y,m1,Z,rfl,a2,a1,((hI.below H).low T5 (λk hk=>by have h1:k=w.1.size:=hk;omega)).less (by omega),((hK.below H).turned T5 (λk hk e=>by have h1:=((hK.below H).Qc k hk).1;have h2:k=w.1.size:=e;omega)).less (by omega),(M.trans (H.mono M.size)).trans (T5.below (λk hk=>by omega) (by have:=M.size;have:=H.size;omega))⟩
def Pl.Qi (P:Pl)(D:DM)(a:Int):Int:=if P.C.get a=0 then 1 else match P.live a.toNat with
 |some (.node _)=>0
 |some (.bytes _ _)=>1
 |none=>if D.Ye a=0 then Xi (D.Yp a) a 5 else D.Ye a
def Pl.Qd (P:Pl)(D:DM)(a:Int):Nd:=if P.C.get a=0 then Zp else match P.live a.toNat with
 |some (.node N)=>N
 |some (.bytes _ _)=>Zp
 |none=>if D.Ye a=0 then Xk (D.Yp a) a else Zp
theorem q3u {N:Nd}(h:(Bk.node N).good):N.may=true:=by
 cases hm:N.may with
 |true=>rfl
 |false=>
  have h1:=h.len (a:=0) (g:=0) (by omega) q2l;have h2:(Bk.node N).out 0 0=[]:=by show Jp N _ _=[];unfold Jp;rw[if_neg (by rw[hm];decide)]
  rw[h2] at h1
  cases h1
theorem qtv {N:Nd}(h:(Bk.node N).good){a:Nat}(f:a<=2047)(o:Int):Xk ((Bk.node N).out a 0) (a:Int)=N/\Xi ((Bk.node N).out a 0) (a:Int) o=0:=by
 have hm:=q3u h;have e:Ze ((Bk.node N).out a 0) (a:Int)=some N:=by
  show Ze (Jp N (a:Int) 0) (a:Int)=some N;rw[qbq hm (q6k hm f q2l).1,if_pos rfl]
 unfold Xk Xi;rw[e];exact⟨rfl,rfl⟩
theorem qp5 {k:Int}{l:List UInt8}(h:(Bk.bytes k l).good)(y:k=5\/k=6){a:Nat}(u:a<=2047)(o:Int):Xk ((Bk.bytes k l).out a 0) (a:Int)=Zp/\Xi ((Bk.bytes k l).out a 0) (a:Int) o=o:=by
 obtain⟨h1,h2,f⟩:=h.opens u q2l;have e:Ze ((Bk.bytes k l).out a 0) (a:Int)=none:=by
  unfold Ze;rw[if_pos f,h1];unfold Di;split
  ·rw[if_neg];rintro⟨e,_⟩;have e:k=if ((Bk.bytes k l).hd a 0).level=0 then (3:Int) else 4:=e
   split at e<;>omega
  ·rfl
 unfold Xk Xi;rw[e];exact⟨rfl,rfl⟩
def Bk.kindOk (b:Bk):Prop:=match b with
 |.node _=>True
 |.bytes k l=>∃m,Ry k=some m/\l.length<=m
theorem qp6 {k:Int}{l:List UInt8}(P:Pl)(e:∀a b,P.L a=some b->b.kindOk){a:Nat}(h:P.live a=some (.bytes k l)):k=5\/k=6:=by
 obtain⟨m,hm,_⟩:=e a _ (q8v h).2;exact (qlv hm).1
theorem q9z {w:World}{p d:Nat}{S0 S T:Nat->Prop}{D:DM}{P:Pl}(K:Wu w d S0 D)(H:Pool w p d S T P)(U:∀a b,P.L a=some b->b.kindOk)(O:Tab w)(a:Int) :
  Calls Tryz.prog 37 #[.pointer (some ⟨p,0,none⟩),.int .i64 a] w λe w'=>q5v (P.Qd D a) (P.Qi D a) w e w':=by
 by_cases h0:P.C.get a=0
 ·have E:P.Qi D a=1:=if_pos h0;have F:P.Qd D a=Zp:=if_pos h0;rw[E,F];exact qfe (o:=0) (by omega) λu y=>(qts (H.below y) a h0).mono λe w' h=>⟨_,_,_,h.1,by rw[<-h.2];exact Below.refl _ _⟩
 ·obtain⟨n,rfl,hn⟩:=Gq h0;have G:n<=2047:=by have:=H.ok.c.1;omega
  have Q:P.Qi D (n:Int)=match P.live n with
    |some (.node _)=>0
    |some (.bytes _ _)=>1
    |none=>if D.Ye (n:Int)=0 then Xi (D.Yp (n:Int)) (n:Int) 5 else D.Ye (n:Int):=by unfold Pl.Qi;rw[if_neg h0,Int.toNat_natCast]
  have R:P.Qd D (n:Int)=match P.live n with
    |some (.node N)=>N
    |some (.bytes _ _)=>Zp
    |none=>if D.Ye (n:Int)=0 then Xk (D.Yp (n:Int)) (n:Int) else Zp:=by unfold Pl.Qd;rw[if_neg h0,Int.toNat_natCast]
  rw[Q,R]
  cases I:P.live n with
  |some b=>
   have M:b.good:=by
    obtain⟨m,cur,l,clock,v,Sc,L⟩:=H;exact L.good n b (q8v I).2
   have f:=qbt (w:=w) (p:=p) (a:=(n:Int)) (o:=1) (x:=b.out n 0) O λu y=>qm3 (H.below y) n b I
   cases b with
   |node N=>
    obtain⟨E,F⟩:=qtv M G 1;rw[E,F] at f;exact f
   |bytes k l=>
    obtain⟨E,F⟩:=qp5 M (qp6 P U I) G 1;rw[E,F] at f;exact f
  |none=>
   by_cases f:D.Ye (n:Int)=0
   ·have X:=qbt (w:=w) (p:=p) (a:=(n:Int)) (o:=5) (x:=D.Yp (n:Int)) O λu y=>by
     have J:=q9y (K.below y) (H.below y) n h0 I;rw[f] at J;exact J
    simp only[if_pos f];exact X
   ·simp only[if_neg f];exact qfe (o:=5) f λu y=>(q9y (K.below y) (H.below y) n h0 I).mono λe w' h=>by
     obtain⟨A,m,c,W,_,J⟩:=h;exact⟨A,m,c,W,J⟩
theorem qp7 {w:World}{p d:Nat}{S0 S T:Nat->Prop}{D:DM}{P:Pl}(f:Wu w d S0 D)(H:Pool w p d S T P)(u:∀a b,P.L a=some b->b.kindOk)(y:Tab w)(a:Int) :
  Calls Tryz.prog 37 #[.pointer (some ⟨p,0,none⟩),.int .i64 a] w λe w'=>qp4 (P.Qd D a) (P.Qi D a) w e w':=(q9z f H u y a).mono λ_ _ h=>h.ans
section
variable {b:Nat}{w w':World}{d p:Nat}{S0 S T S':Nat->Prop}{D:DM}{P:Pl}
theorem Qg.below (H:Qg b w d p S0 S T D P)(hb:Below w.1.size w w'):Qg b w' d p S0 S T D P:=
 ⟨H.Az.below hb,H.pool.below hb,H.sub,H.apart,λk e=>⟨(H.tight k e).1,by have:=(H.tight k e).2;have:=hb.size;omega⟩⟩
theorem Qg.more (H:Qg b w d p S0 S T D P)(hb:Below w.1.size w w'):Qg b w' d p S0 S (grow T w w') D P:=by
 have u:=H.base;have f:=H.Aw;have y:=hb.size;refine⟨H.Az.below hb,(H.pool.mono (S':=S) (T':=grow T w w') (λk _ h=>h) (λk e h=>?_) (λk h=>⟨.inl (f k h),by have:=(H.tight k (f k h)).2;omega⟩)).below hb,λk e=>⟨.inl (H.sub k e),by have:=(H.tight k (H.sub k e)).2;omega⟩,H.apart,λk e=>⟨e.1.elim (λh=>(H.tight k h).1) λh=>by omega,e.2⟩⟩;exact h.1.elim id λh=>by omega
theorem Qg.own (H:Qg b w d p S0 S T D P)(t:Turn S' w w')(hT:∀k,S' k->T k)(h0:∀k,S' k->¬S0 k)(h1:∀k,S' k->¬S k):Qg b w' d p S0 S T D P:=
 ⟨H.Az.keep λk e f=>t.block k e λh=>h0 k h f,H.pool.other t hT h1,H.sub,H.apart,λk e=>⟨(H.tight k e).1,by have:=(H.tight k e).2;have:=t.size;omega⟩⟩
theorem Qg.sys (H:Qg b w d p S0 S T D P):Sys b w d p T D P:=⟨S0,S,H⟩
end
def Gg (w:World)(base:Nat)(A:Option Addr)(n c:Nat)(an:List Nat):Prop:=Qr w base 3 1 A n c (an.map λ(a:Nat)=>[.int .i64 (a:Int)])
section
variable {w w':World}{base:Nat}{A:Option Addr}{n c:Nat}{an:List Nat}
theorem Gg.len (h:Gg w base A n c an):an.length=n:=by
 have:=Qr.len h (by omega);rw[List.length_map] at this;omega
theorem Gg.turned (h:Gg w base A n c an){S:Nat->Prop}(T:Turn S w w')(hA:∀k,q01 A=some k->¬S k):Gg w' base A n c an:=Qr.turned h T hA
theorem Gg.below (h:Gg w base A n c an)(hb:Below w.1.size w w'):Gg w' base A n c an:=Qr.below h hb
theorem Gg.lt (h:Gg w base A n c an):∀k,q01 A=some k->base<=k/\k<w.1.size:=Qr.Qc h
theorem Gg.cell (h:Gg w base A n c an){i:Nat}(hi:i<n):∃e a,A=some e/\an[i]?=some a/\w.cell? (e.add i)=some (.int .i64 (a:Int))/\e.block<w.1.size:=by
 have F:=h.len;have E:=Qr.Uo h (by omega);obtain⟨g,o,f,u,_,y⟩:=E.2.2.2 i _ (List.getElem?_eq_getElem (by rw[List.length_map];omega));have h0:=y 0 (.int .i64 ((an[i]'(by omega):Nat):Int)) (by rw[List.getElem_map];rfl);rw[Nat.mul_one,Nat.add_zero] at h0;exact⟨⟨g,o,none⟩,_,f,List.getElem?_eq_getElem (by omega),by rw[Addr.add_mid];exact h0,u⟩
theorem Gg.cap (h:Gg w base A n c an):n<=c/\c<=maxLen:=by
 have e:=Qr.Uo h (by omega);exact⟨e.cap,e.max⟩
end
section
theorem qp8 {cur:Array Value}(h:∀(i:Nat) (v:Value),cur[i]?=some v->v.oneCell'=true):cur.all (·.oneCell')=true:=by
 rw[Array.all_eq_true];intro i hi;exact h i _ (Array.getElem?_eq_getElem hi)
theorem qtw {w:World}{p d m clock:Nat}{cur:Array Value}{l:List MapEntry}{v:Nat->Value}{Sc S T:Nat->Prop}{P:Pl}(L:PL w p d m cur l clock v Sc S T P):cur.all (·.oneCell')=true:=by
 refine qp8 λi x e=>?_
 obtain⟨a,I,b,J,t,f,h1,⟨H,u,y,E⟩,_⟩:=L.ct;rw[L.me] at h1;injection h1 with h1;injection h1 with h1;subst h1;have hi:i<41:=by have:=(Array.getElem?_eq_some_iff.1 e).1;have:=L.ph.size;omega
 by_cases h0:i=0
 ·subst h0;rw[L.ph.disk] at e;injection e with e;subst e;rfl
 ·by_cases F:i<36
  ·have G:P.S.vs[i-1]?=some (P.S.vs[i-1]'(by rw[P.S.Zy];omega)):=List.getElem?_eq_getElem _;have:=L.ph.sup (i-1) _ G;rw[show 1+(i-1)=i by omega,e] at this;injection this with this;rw[this];exact P.S.one _ (List.getElem_mem _)
  ·have:i=36\/i=37\/i=38\/i=39\/i=40:=by omega
   rcases this with rfl|rfl|rfl|rfl|rfl
   ·rw[H] at e;injection e with e;subst e;rfl
   ·rw[show 36+1=37 from rfl] at u;rw[u] at e;injection e with e;subst e;rfl
   ·rw[show 36+2=38 from rfl] at y;rw[y] at e;injection e with e;subst e;rfl
   ·rw[show 36+3=39 from rfl] at E;rw[E] at e;injection e with e;subst e;rfl
   ·rw[L.ph.fresh] at e;injection e with e;subst e;rfl
theorem q5w (b:Nat):∀(vs:List Value) (o:Nat) (w:World),(w.setCells b o vs).1.size=w.1.size
 |[],_,_=>rfl
 |v::r,o,w=>(q5w b r (o+1) (w.setCell ⟨b,o,none⟩ v)).trans (World.size_setCell ..)
theorem qp9 {α:Type}{L vs:List α}{o i:Nat}(hi:i<o)(e:o<=L.length):(splice L o vs)[i]?=L[i]?:=by
 unfold splice;rw[List.getElem?_append_left (by simp;omega),List.getElem?_take_of_lt hi]
theorem qpa {α:Type}{L vs:List α}{o j:Nat}(e:j<vs.length)(u:o<=L.length):(splice L o vs)[o+j]?=vs[j]?:=by
 unfold splice;have f:(L.take o).length=o:=by simp;omega
 rw[List.getElem?_append_right (by omega),f,Nat.add_sub_cancel_left,List.getElem?_append_left e]
theorem qpb {α:Type}{L vs:List α}{o j:Nat}(f:o<=L.length):(splice L o vs)[o+(vs.length+j)]?=L[o+(vs.length+j)]?:=by
 unfold splice;have e:(L.take o).length=o:=by simp;omega
 rw[List.getElem?_append_right (by omega),e,Nat.add_sub_cancel_left,List.getElem?_append_right (by omega),Nat.add_sub_cancel_left,List.getElem?_drop,Nat.add_assoc]
def ldP (p:Value):Sem Value:=Instr.loadAt 125 p
theorem qtx (p:Value):Instr.loadAt 125 p=ldP p:=rfl
def alP (h:Bool)(old:Value):Sem Value:=Instr.alloc 125 h old
theorem qty (h:Bool)(old:Value):Instr.alloc 125 h old=alP h old:=rfl
def Vx:List Value:=.pointer none::(Sp.zero.vs++[.slice none 0 0,.slice none 0 0,.int .i64 0,.int .i64 0,.map none])
theorem qa0:Vx.length=41:=by decide
theorem qxg (h:Bool)(w:World):(alP h (.tuple #[])).run Tryz.prog w=.ok (.pointer (some ⟨w.1.size,0,none⟩)) (w.alloc (.cells Vx.toArray 125)):=by
 cases h
 ·show (Instr.alloc 125 false (.tuple #[])).run Tryz.prog w=_;kernel_rfl
 ·show (Instr.alloc 125 true (.tuple #[])).run Tryz.prog w=_;kernel_rfl
theorem PL.ldp {w:World}{p d m clock:Nat}{cur:Array Value}{l:List MapEntry}{v:Nat->Value}{Sc S T:Nat->Prop}{P:Pl}(L:PL w p d m cur l clock v Sc S T P):(ldP (.pointer (some ⟨p,0,none⟩))).run Tryz.prog w=.ok (.agg cur) w:=by
 have e:w.rangeAt p 0 cur.toList:=λj x f=>by
  rw[Nat.zero_add];exact Fb L.me (by simpa using f)
 show (Instr.loadAt 125 (.pointer (some ⟨p,0,none⟩))).run Tryz.prog w=_;have:=run_loadAt_mid (P:=Tryz.prog) w p 0 125 cur.toList _ e Tryz.underlying125 rfl (by rw[Array.length_toList,L.ph.size];kernel_rfl);simpa using this
attribute [local go_sem ↓] qtx qty qjh
theorem qm4 {b:Nat}{w:World}{d p:Nat}{S0 S T:Nat->Prop}{D:DM}{P:Pl}(H:Qg b w d p S0 S T D P) :
  Calls Tryz.prog 24 #[.pointer (some ⟨p,0,none⟩)] w λe w'=>∃q,e=.returned (.pointer (some ⟨q,0,none⟩))/\Below w.1.size w w'/\Qg b w' d p S0 S (grow T w w') D P/\Qg b w' d q S0 (λk=>w.1.size<=k/\k<w'.1.size) (grow T w w') D P:=by
 have K:=H;obtain⟨m,cur,l,clock,v,Sc,L⟩:=H.pool;have d1:=L.ldp;have b7:=qtw L;have d0:=qxg;have d8:=L.F8;have d6:=L.mlt;have c40:=L.c40;have a2:=L.ph.size;have bz:Below w.1.size w (w.alloc (.cells Vx.toArray 125)):=Qk;have U:(w.alloc (.cells Vx.toArray 125)).1[w.1.size]?=some (.cells Vx.toArray 125 (0,0)):=heap_alloc_new w _;have b4:=(L.below bz).ldp;go_enter Tryz.func24,Tryz.ntmps24
 have b8:(w.alloc (.cells Vx.toArray 125)).there w.1.size 0 cur.size:=λj hj=>by
  refine⟨?_,by unfold World.frozen?;rw[U];simp⟩;rw[cell_of_row _ _ _ _ _ _ U,Array.getElem?_eq_getElem (by rw[List.size_toArray,qa0];omega)];rfl
 have h2:=q0i w.1.size 125 cur.toList 0 _ Vx U (by rw[Array.length_toList,qa0];omega);rw[q2j Vx cur.toList (by rw[qa0,Array.length_toList,a2])] at h2;have T2:=Vb (S:=λk=>k=w.1.size) rfl cur.toList 0 (w.alloc (.cells Vx.toArray 125));have b2:Below w.1.size w ((w.alloc (.cells Vx.toArray 125)).setCells w.1.size 0 cur.toList):=bz.trans (T2.below (λk G=>by omega) (by simp));have zz:((w.alloc (.cells Vx.toArray 125)).setCells w.1.size 0 cur.toList).1.size=w.1.size+1:=by
  rw[q5w];simp
 go_wp2_with (first
  |(refine wpList_store_mid rfl 125 _ _ rfl w.1.size 0 cur rfl rfl b8 (by rw[a2];kernel_rfl) b7 ?_)
  |fail)
 generalize (w.alloc (.cells Vx.toArray 125)).setCells w.1.size 0 cur.toList=w2 at h2 b2 zz ⊢;obtain⟨q,hq⟩:∃k,w.1.size=k:=⟨_,rfl⟩;have Hq:=Lib.hid hq;rw[hq] at h2 zz;simp only[hq];have L2:=L.below b2;have c9:=L2.ct;clear d1 b4 d0 b8 U bz T2;refine (qlk c9).mono ?_;rintro e I ⟨pc,rfl,C3,d7,b3⟩;have L3:=L2.below b3;have h3:=(b3.block q (by omega)).trans h2;have a6:=L3.c40;have hC:=C3;obtain⟨a0,c6,a1,c7,ty,cu,k1,⟨k2,k3,k4,k5⟩,k6,k7,k8,k9,d9⟩:=C3;obtain⟨f,M⟩:∃x:Value,Value.slice (some ⟨a0,0,none⟩) P.C.n c6=x:=⟨_,rfl⟩;obtain⟨u,O⟩:∃x:Value,Value.slice (some ⟨a1,0,none⟩) P.C.n c7=x:=⟨_,rfl⟩;obtain⟨y,Q⟩:∃x:Value,Value.int .i64 (Qh P.C.n:Int)=x:=⟨_,rfl⟩;obtain⟨E,R⟩:∃x:Value,Value.int .i64 (P.C.first:Int)=x:=⟨_,rfl⟩;have o4:(#[f,u,y,E]:Array Value).all (·.oneCell')=true:=by
  refine qp8 λi v F=>?_
  match i,F with
  |0,F=>injection F with F;rw[<-F,<-M];rfl
  |1,F=>injection F with F;rw[<-F,<-O];rfl
  |2,F=>injection F with F;rw[<-F,<-Q];rfl
  |3,F=>injection F with F;rw[<-F,<-R];rfl
  |i+4,F=>simp at F
 have d4:(ldC (.pointer (some ⟨pc,0,none⟩))).run Tryz.prog I=.ok (.agg #[f,u,y,E]) I:=by
  have r:I.rangeAt pc 0 [f,u,y,E]:=λj v F=>by
   rw[Nat.zero_add];refine Fb k1 ?_;rw[M] at k2;rw[O] at k3;rw[Q] at k4;rw[R] at k5;match j with
   |0=>rw[k2];exact F
   |1=>exact k3.trans F
   |2=>exact k4.trans F
   |3=>exact k5.trans F
   |j+4=>simp at F
  exact run_loadAt_mid I pc 0 122 _ _ r Tryz.underlying122 rfl (by kernel_rfl)
 have b9:I.there q 36 4:=λj hj=>by
  refine⟨?_,by unfold World.frozen?;rw[h3];simp⟩;rw[cell_of_row _ _ _ _ _ _ h3,Array.getElem?_eq_getElem (by simp;omega)];rfl
 have b0:cur.toList.length=41:=by rw[Array.length_toList,a2]
 have h4:=q0i q 125 [f,u,y,E] 36 I cur.toList h3 (by rw[b0];show 36+4<=41;omega);have T4:=Vb (S:=λk=>k=q) rfl [f,u,y,E] 36 I;have d3:p≠q:=by omega
 have d2:m≠q:=by omega
 have z3:=b3.size;have z4:(I.setCells q 36 [f,u,y,E]).1.size=I.1.size:=q5w ..;have a7:(I.setCells q 36 [f,u,y,E]).cell? ⟨p,40,none⟩=some (.map (some m)):=by
  rw[World.cell?_of_block (a:=⟨p,40,none⟩) (T4.block p (by have:=L3.F8;omega) (λh=>d3 h))];exact a6
 have m4:(I.setCells q 36 [f,u,y,E]).1[m]?=some (.map l.toArray clock):=(T4.block m L3.mlt (λh=>d2 h)).trans L3.map;go_wp2_with (first
  |(refine wpList_store_mid rfl 122 _ _ rfl q 36 #[f,u,y,E] rfl rfl b9 (by kernel_rfl) o4 ?_)
  |fail)
 have BD:=b3;generalize I.setCells q 36 [f,u,y,E]=J at h4 T4 z4 a7 m4 ⊢;refine (qii m4).mono ?_;rintro e w5 ⟨rfl,rfl⟩;have b5:Below J.1.size J (J.alloc (.map l.toArray clock)):=Qk;have m5:(J.alloc (.map l.toArray clock)).1[J.1.size]?=some (.map l.toArray clock):=heap_alloc_new J _;have h5:=(b5.block q (by omega)).trans h4;have z5:(J.alloc (.map l.toArray clock)).1.size=J.1.size+1:=by simp
 have c5:(splice cur.toList 36 [f,u,y,E])[40]?=some (.map (some m)):=by
  have h:=qpb (L:=cur.toList) (vs:=[f,u,y,E]) (o:=36) (j:=0) (by omega);have c8:36+([f,u,y,E].length+0)=40:=rfl;rw[c8] at h;rw[h,Array.getElem?_toList];exact L.ph.fresh
 have d5:(J.alloc (.map l.toArray clock)).cell? ⟨q,40,none⟩=some (.map (some m)):=by
  rw[cell_of_row _ _ _ _ _ _ h5,List.getElem?_toArray];exact c5
 have f5:(J.alloc (.map l.toArray clock)).frozen? ⟨q,40,none⟩=false:=by unfold World.frozen?;rw[h5];simp
 generalize J.alloc (.map l.toArray clock)=w5 at b5 m5 h5 z5 d5 f5 ⊢;go_wp2_with fail
 have hq:=Hq.out;obtain⟨Y,b6⟩:∃k,I.1.size=k:=⟨_,rfl⟩;rw[z4,b6] at m5;simp only[b6];have h6:=heap_setCell_same w5 q 40 _ _ (.map (some Y)) h5;have X6:Turn (λk=>k=q) w5 (w5.setCell ⟨q,40,none⟩ (.map (some Y))):=q7h _ _ _;have z6:(w5.setCell ⟨q,40,none⟩ (.map (some Y))).1.size=w5.1.size:=World.size_setCell ..;generalize w5.setCell ⟨q,40,none⟩ (.map (some Y))=w6 at h6 X6 z6 ⊢;have B4:Below w.1.size w J:=(b2.trans (b3.mono (by omega))).trans (T4.below (λk G=>by omega) (by omega));have B6:Below w.1.size w w6:=(B4.trans (b5.mono (by omega))).trans (X6.below (λk G=>by omega) (by omega));have m6:w6.1[Y]?=some (.map l.toArray clock):=(X6.block Y (by omega) (by omega)).trans m5;have a8:=K.Aw;have Z:=(L.mono (S':=S) (T':=grow T w w6) (λk _ h=>h) (λk G h=>h.1.elim id λh2=>by omega) (λk h=>⟨.inl (a8 k h),by have:=(K.tight k (a8 k h)).2;omega⟩)).below B6;have W:∀i,i<36->((splice cur.toList 36 [f,u,y,E]).toArray.setIfInBounds 40 (.map (some Y)))[i]?=cur[i]?:=λi hi=>by
  rw[Array.getElem?_setIfInBounds_ne (by omega),List.getElem?_toArray,qp9 hi (by omega),Array.getElem?_toList]
 have X:(splice cur.toList 36 [f,u,y,E]).length=41:=by
  unfold splice;simp only[List.length_append,List.length_take,List.length_drop,List.length_cons,List.length_nil,b0];omega
 have C6:Yj w6 q 36 (λk=>w2.1.size<=k/\k<I.1.size) P.C:=by
  refine Yj.around (p:=pc) (o:=0) hC.shrink k1 h6 (λj hj=>?_) (λk G=>by omega) λk G hs=>?_
  ·rw[Array.getElem?_setIfInBounds_ne (by omega),List.getElem?_toArray,qpa (by simpa using hj) (by omega)];rw[M] at k2;rw[O] at k3;rw[Q] at k4;rw[R] at k5;match j,hj with
   |0,_=>exact k2.symm
   |1,_=>exact k3.symm
   |2,_=>exact k4.symm
   |3,_=>exact k5.symm
  ·have b1:k≠q:=by omega
   exact (X6.block k (by omega) b1).trans ((b5.block k (by omega)).trans (T4.block k G b1))
 go_ret;refine⟨q,rfl,B6,K.more B6,K.Az.below B6,⟨Y,_,l,clock,v,_,⟨h6,⟨?_,?_,λj x hx=>?_,?_⟩,C6,m6,Z.ents,Z.look,Z.keys,Z.row,Z.good,⟨⟨by omega,by omega⟩,⟨by omega,by omega⟩,λk G=>⟨by omega,by omega⟩⟩,λk G=>⟨by omega,by omega⟩,λk G=>⟨.inr G.1,G.2⟩,Z.ok,Z.D6⟩⟩,λk G=>⟨.inl (K.sub k G),by have:=(K.tight k (K.sub k G)).2;omega⟩,λk G h=>by have:=(K.tight k (K.sub k G)).2;omega,λk G=>⟨G.1.elim (λh=>(K.tight k h).1) λh=>by have:=K.base;omega,G.2⟩⟩
 ·rw[Array.size_setIfInBounds,List.size_toArray,X]
 ·rw[W 0 (by omega)];exact L.ph.disk
 ·have hj:j<35:=by have:=(List.getElem?_eq_some_iff.1 hx).1;rw[P.S.Zy] at this;exact this
  rw[W (1+j) (by omega)];exact L.ph.sup j x hx
 ·rw[Array.getElem?_setIfInBounds_self_of_lt (by rw[List.size_toArray,X];omega)]
end
