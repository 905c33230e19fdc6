/- The code's pool: Ref, Fresh; the superblock is set -/
import Derived.Test.YthkfkhejjmhomaaGreatDoorEs23
import Derived.Test.YthkfkhejjmhomaaGreatDoorEs24
import Derived.Shelf.SlIterI.Nil
import Derived.Shelf.SlIterI.Sorted
import Derived.Shelf.SortM.Plain
import Derived.Shelf.SortM.SortNone
import Derived.Shelf.SlMaps.Clone
namespace Go.Proofs.YthkfkhejjmhomaaGreatDoor
open Go Go.RowKit Go.Proofs
set_option maxHeartbeats 8000000
set_option maxRecDepth 100000
section
theorem qu0 (C:Ct)(a:Int)(c:Nat)(u:C.ok):(C.ref a).get (c:Int)=0↔C.get (c:Int)=0:=by
 by_cases h:C.Yg a=0
 ·have f:C.ref a=C.put a.toNat (C.get a+1):=by unfold Ct.ref;rw[if_pos h]
  have h0:C.get a≠0:=λe=>by unfold Ct.Yg at h;rw[if_pos e] at h;omega
  have H:0<=a/\a<(C.n:Int):=Classical.byContradiction λh2=>h0 (by unfold Ct.get;rw[if_neg h2])
  have I:=C.Zd u a;obtain⟨V,F⟩:∃V,C.get a+1=V:=⟨_,rfl⟩;rw[f,F];by_cases G:c<C.n
  ·have h1:(C.put a.toNat V).get (c:Int)=nm (C.put a.toNat V).now c:=by unfold Ct.get;rw[C.Zf,if_pos (by omega),Int.toNat_natCast]
   have h2:C.get (c:Int)=nm C.now c:=by unfold Ct.get;rw[if_pos (by omega),Int.toNat_natCast]
   rw[h1,q4t _ _ _ _ G];by_cases e:c=a.toNat
   ·have E:(c:Int)=a:=by omega
    rw[if_pos e,E];constructor
    ·intro y;omega
    ·intro y;exact absurd y h0
   ·rw[if_neg e,h2]
  ·have h1:(C.put a.toNat V).get (c:Int)=0:=by unfold Ct.get;rw[C.Zf,if_neg (by omega)]
   have h2:C.get (c:Int)=0:=by unfold Ct.get;rw[if_neg (by omega)]
   rw[h1,h2]
 ·have f:C.ref a=C:=by unfold Ct.ref;rw[if_neg h]
  rw[f]
theorem qyx {P:Pl}(h:P.ok)(a:Int):Pl.ok ⟨P.S,P.C.ref a,P.L⟩:=
 ⟨Ct.Qay h.c a,Ct.Qaz h.res a,h.may,by show P.S.Qb=((P.C.ref a).n:Int);rw[Ct.Qbc];exact h.sec,h.gen,h.fine⟩
theorem qu1 {w:World}{p d:Nat}{S T:Nat->Prop}{P:Pl}(H:Pool w p d S T P)(a:Int) :
  Calls Tryz.prog 74 #[.pointer (some ⟨p,0,none⟩),.int .i64 a] w λe w'=>e=.returned (.int .i64 (P.C.Yg a))/\Pool w' p d S T ⟨P.S,P.C.ref a,P.L⟩/\Turn S w w':=by
 have f:=H.ok;obtain⟨m,G,l,clock,v,O,L⟩:=H;have u:=qte L.ct a;have Q:=L.Iq;have y:=Lib.hid (qyx f a);have M:=Lib.hid (λc=>qu0 P.C a c f.c);obtain⟨E,J⟩:∃E,P.C.Yg a=E:=⟨_,rfl⟩;rw[J] at u ⊢;have F:=Lib.hid u;clear u J f;go_enter Tryz.func74,Tryz.ntmps74
 go_wp2_with fail
 refine F.out.mono ?_;rintro e U ⟨rfl,K,I⟩;have R:=L.Qa1 I K (Ct.Qbc _ _) (λc=>M.out c) y.out;go_wp2;go_ret;exact⟨rfl,⟨m,G,l,clock,v,O,R⟩,I.mono L.Yj.2.2⟩
theorem q83 {w:World}{p d:Nat}{S T:Nat->Prop}{P:Pl}(H:Pool w p d S T P)(a:Int)(r:Bool)(y:P.C.fresh a=r) :
  Calls Tryz.prog 236 #[.pointer (some ⟨p,0,none⟩),.int .i64 a] w λe w'=>e=.returned (.bool r)/\w=w':=by
 obtain⟨m,u,l,clock,v,E,L⟩:=H;have f:=qm6 L.ct a r y;go_enter Tryz.func236,Tryz.ntmps236
 go_wp2_with fail
 refine f.mono ?_;rintro e F ⟨rfl,rfl⟩;go_wp2;go_ret;exact⟨rfl,rfl⟩
attribute [local go_sem ↓] q23
end
section
open Go.ChangeMaps (setBlock)
theorem q73 {N:Nd}(hm:N.may=true){a:Nat}{g:Int}(G:a<=2047)(u:Hf g):Zm N (a:Int) g=0/\Jr N (a:Int) g=Zt (N.head (a:Int) g) N.body/\(N.head (a:Int) g).ok=true:=by
 have e:Zm N (a:Int) g=0:=Classical.byContradiction λh=>by
  have h2:=(qtr hm h).2;have E:=u.1;have F:=u.2;omega
 refine⟨e,?_⟩;unfold Zm at e;rw[if_pos hm] at e;obtain⟨f,_,y⟩:=q6u _ _ e;refine⟨?_,f⟩;unfold Jr;rw[if_pos hm,y]
theorem q4w {N:Nd}(hm:N.may=true):(Bk.node N).good:=⟨λ_ _ e f=>(q73 hm e f).2.2,qpg hm,λ_ _ e f=>(q73 hm e f).2.1⟩
def Pl.Yw (P:Pl)(N:Nd):Int:=if N.may=true then P.C.Kv else 0
def Pl.Jo (P:Pl)(N:Nd):Int:=if N.may=true then P.C.Ku else 1
def Pl.Jm (P:Pl)(N:Nd):Pl:=if N.may=true then P.lay (.node N) else P
end
section
open Go.ChangeMaps (setBlock)
theorem Uc {C:Ct}{a:Int}(h:C.get a≠0):∃n:Nat,a=(n:Int)/\n<C.n:=by
 have e:0<=a/\a<(C.n:Int):=Classical.byContradiction λh2=>h (by unfold Ct.get;rw[if_neg h2])
 exact⟨a.toNat,by omega,by omega⟩
end
structure Qe (b:Nat)(w:World)(d p:Nat)(S0 S T:Nat->Prop)(D:DM)(P:Pl):Prop where
 Ba:Vp w d S0 D
 pool:Pool w p d S T P
 sub:∀k,S0 k->T k
 apart:∀k,S0 k->¬S k
 tight:∀k,T k->b<=k/\k<w.heap.size
def Sys (b:Nat)(w:World)(d p:Nat)(T:Nat->Prop)(D:DM)(P:Pl):Prop:=∃S0 S,Qe b w d p S0 S T D P
def grow (T:Nat->Prop)(w w':World):Nat->Prop:=λk=>(T k\/w.1.size<=k)/\k<w'.1.size
section
variable {b:Nat}{w w':World}{d p:Nat}{T:Nat->Prop}{D:DM}{P:Pl}
theorem Qe.Dv {S0 S:Nat->Prop}(H:Qe b w d p S0 S T D P):∀k,S k->T k:=by
 obtain⟨m,e,l,clock,v,f,L⟩:=H.pool;exact L.sub
theorem Qe.base {S0 S:Nat->Prop}(H:Qe b w d p S0 S T D P):b<=w.1.size:=by
 obtain⟨m,e,l,clock,v,f,L⟩:=H.pool;have:=(H.tight _ (L.sub _ L.Yj.1)).1;have:=L.Iq;omega
theorem Sys.ok (H:Sys b w d p T D P):P.ok:=by
 obtain⟨S0,S,H⟩:=H;exact H.pool.ok
theorem Sys.base (H:Sys b w d p T D P):b<=w.1.size:=by
 obtain⟨S0,S,H⟩:=H;exact H.base
theorem qyy {u w:World}{d p q:Nat}{S0:Nat->Prop}{D:DM}{P:Pl}(H:Sm u w p d q S0 D P)(f:∀k,S0 k->b<=k)(y:b<=u.1.size):Sys b w d p (λk=>b<=k/\k<w.1.size) D P:=by
 refine⟨λk=>(S0 k\/u.1.size<=k)/\k<q,λk=>q<=k/\k<w.1.size,H.Ba,?_,λk e=>?_,λk e h=>?_,λk e=>e⟩
 ·have h:=H.pool (λk=>b<=k) (λk e=>by have:=H.ge.1;omega);exact h.mono (λk e h=>⟨h,e⟩) (λk e h=>h.1) λk e=>⟨by have:=H.ge.1;omega,e.2⟩
 ·have:=H.ge.2;exact⟨e.1.elim (f k) λh=>by omega,by omega⟩
 ·omega
end
theorem q9i {P:Pl}{a:Nat}{b:Bk}(h:P.live a=some b):P.C.get (a:Int)≠0/\P.L a=some b:=by
 unfold Pl.live at h;split at h
 ·cases h
 ·rename_i h0;exact⟨h0,h⟩
theorem qyz {n:Nat}(h:n<=2048):(Xq n).length<=30:=by
 rw[qpb];unfold Ql;omega
def shB:List UInt8:=[97,98]
def qpo (M:Nd)(E:Int)(w:World)(e:Ending)(w':World):Prop:=
 ∃y u c1 F f G,e=.returned (.tuple #[.agg #[.int .i64 M.lvl,.slice y u c1,.slice F f G],.int .i64 E])/\u<=20/\f<=20/\Jd w' y u c1 M.items/\Zp w' F f G M.kids/\Below w.1.size w w'
def q6f (M:Nd)(E:Int)(w:World)(e:Ending)(w':World):Prop:=
 ∃y u c1 F f G,e=.returned (.tuple #[.agg #[.int .i64 M.lvl,.slice y u c1,.slice F f G],.int .i64 E])/\u<=20/\f<=20/\Jt w' w.1.size y u c1 M.items/\Qo w' w.1.size 148 4 F f G (M.kids.map Qm.vs)/\Below w.1.size w w'
theorem q6f.ans {M:Nd}{E:Int}{w:World}{e:Ending}{w':World}(h:q6f M E w e w'):qpo M E w e w':=by
 obtain⟨f,K,c1,u,J,y,h1,h2,F,G,H,I⟩:=h;exact⟨f,K,c1,u,J,y,h1,h2,F,G.J5,H.Kt (by omega),I⟩
def Zk:Nd:=⟨0,[],[]⟩
def Xl (x:List UInt8)(a o:Int):Int:=if (Zj x a).isSome=true then 0 else o
def Xm (x:List UInt8)(a:Int):Nd:=(Zj x a).getD Zk
section
variable {w w':World}{b n c m d:Nat}{l:Int}{A B:Option Addr}
end
theorem qfz {w:World}{p:Nat}{a E o:Int}(M:E≠0)(f:∀u,Below w.1.size w u->Calls Tryz.prog 83 #[.pointer (some ⟨p,0,none⟩),.int .i64 a] u λe w'=>∃A n c,e=.returned (.tuple #[.slice A n c,.int .i64 o,.int .i64 E])/\Below u.1.size u w') :
  Calls Tryz.prog 37 #[.pointer (some ⟨p,0,none⟩),.int .i64 a] w λe w'=>q6f Zk E w e w':=by
 have U:(E==0)=false:=by simpa using M
 have H:NB (w.alloc (.cells #[.int .i64 0,.slice none 0 0,.slice none 0 0] 77)) w.1.size 0 none 0 0 none 0 0:=NB.new w _ _ _ _ _ _ _ _;have F:Below w.1.size w (w.alloc (.cells #[.int .i64 0,.slice none 0 0,.slice none 0 0] 77)):=Qn;have Q:(w.alloc (.cells #[.int .i64 0,.slice none 0 0,.slice none 0 0] 77)).1.size=w.1.size+1:=by simp
 have y:=Lib.hid f;clear f;go_enter Tryz.func37,Tryz.ntmps37
 go_wp2_with fail
 generalize w.alloc (.cells #[.int .i64 0,.slice none 0 0,.slice none 0 0] 77)=O at F H Q ⊢;refine (y.out O F).mono ?_;rintro e W ⟨A,n,c,rfl,G⟩;have I:=H.below G (by omega);go_wp2_with (first
  |(refine Ub rfl _ _ rfl w.1.size rfl 0 none 0 0 none 0 0 rfl I ?_;intro X J K)
  |fail)
 refine bodyPost_ret (Gi Tryz.results37 rfl (Ew J)) rfl ?_;have Y:=G.size;exact⟨none,0,0,none,0,0,rfl,by omega,by omega,Pq _ _,Ir _ _ _ _,(F.trans (G.mono (by omega))).trans (K.below (λk R=>by omega) (by omega))⟩
theorem qcd {w:World}{p:Nat}{a o:Int}{x:List UInt8}(ht:Tab w)(J:∀u,Below w.1.size w u->Calls Tryz.prog 83 #[.pointer (some ⟨p,0,none⟩),.int .i64 a] u λe w'=>∃A n c,e=.returned (.tuple #[.slice A n c,.int .i64 o,.int .i64 0])/\Sl w' A n c x/\Below u.1.size u w') :
  Calls Tryz.prog 37 #[.pointer (some ⟨p,0,none⟩),.int .i64 a] w λe w'=>q6f (Xm x a) (Xl x a o) w e w':=by
 have R1:NB (w.alloc (.cells #[.int .i64 0,.slice none 0 0,.slice none 0 0] 77)) w.1.size 0 none 0 0 none 0 0:=NB.new w _ _ _ _ _ _ _ _;have Q:Below w.1.size w (w.alloc (.cells #[.int .i64 0,.slice none 0 0,.slice none 0 0] 77)):=Qn;have z1:(w.alloc (.cells #[.int .i64 0,.slice none 0 0,.slice none 0 0] 77)).1.size=w.1.size+1:=by simp
 have t1:=ht.below Q ht.1;have I:=Lib.hid J;clear J
 cases K:Zj x a with
 |none=>
  have e1:Xm x a=Zk:=by unfold Xm;rw[K];rfl
  have e2:Xl x a o=o:=by unfold Xl;rw[K];rfl
  rw[e1,e2];have f:=λ(A:Option Addr) (n c:Nat) (y:World) (U:Sl y A n c x) (W:Tab y)=>qfr A n c x a y U W
  unfold q46 at f;rw[K] at f;have O:=Lib.hid f;clear f K e1 e2;go_enter Tryz.func37,Tryz.ntmps37
  go_wp2_with fail
  generalize w.alloc (.cells #[.int .i64 0,.slice none 0 0,.slice none 0 0] 77)=w1 at Q R1 z1 t1 ⊢;refine (I.out w1 Q).mono ?_;rintro e y ⟨A,n,c,rfl,U,G⟩;have R2:=R1.below G (by omega);have W:=t1.below G t1.1;have z2:=G.size;go_wp2_with fail
  refine (O.out A n c y U W).mono ?_;rintro e F ⟨X,n1,c1,Y,m1,Z,rfl,a1,a0,hI,hK,R⟩;have z3:=R.size;have R3:=R2.below R (by omega);have M:=Q.trans ((G.trans (R.mono z2)).mono (by omega));go_wp2_with (first
   |(refine Ub rfl (.tmp 4) (.tmp 29) rfl w.1.size rfl 0 none 0 0 none 0 0 rfl (R3.below (E:=F.1.size) (Qn) (by omega)) ?_;intro w5 R5 T5)
   |fail)
  refine bodyPost_ret (Gi Tryz.results37 rfl (Ew R5)) rfl ?_;have H:Below F.1.size F (F.alloc (.cells #[.int .i64 0,.slice X n1 c1,.slice Y m1 Z] 77)):=Qn;exact⟨none,0,0,none,0,0,rfl,by omega,by omega,Pq _ _,Ir _ _ _ _,(M.trans (H.mono M.size)).trans (T5.below (λk hk=>by omega) (by have:=M.size;have:=H.size;omega))⟩
 |some N=>
  have e1:Xm x a=N:=by unfold Xm;rw[K];rfl
  have e2:Xl x a o=0:=by unfold Xl;rw[K];rfl
  rw[e1,e2];have f:=λ(A:Option Addr) (n c:Nat) (y:World) (U:Sl y A n c x) (W:Tab y)=>qfr A n c x a y U W
  unfold q46 at f;rw[K] at f;have O:=Lib.hid f;clear f K e1 e2;go_enter Tryz.func37,Tryz.ntmps37
  go_wp2_with fail
  generalize w.alloc (.cells #[.int .i64 0,.slice none 0 0,.slice none 0 0] 77)=w1 at Q R1 z1 t1 ⊢;refine (I.out w1 Q).mono ?_;rintro e y ⟨A,n,c,rfl,U,G⟩;have R2:=R1.below G (by omega);have W:=t1.below G t1.1;have z2:=G.size;go_wp2_with fail
  refine (O.out A n c y U W).mono ?_;rintro e F ⟨X,n1,c1,Y,m1,Z,rfl,a1,a0,hI,hK,R⟩;have hI:Jt F y.1.size X n1 c1 N.items:=hI;have hK:Qo F y.1.size 148 4 Y m1 Z (N.kids.map Qm.vs):=hK;have hl:((some N:Option Nd).getD ⟨0,[],[]⟩).lvl=N.lvl:=rfl;simp only[hl];have z3:=R.size;have R3:=R2.below R (by omega);have M:=Q.trans ((G.trans (R.mono z2)).mono (by omega));have H:Below F.1.size F (F.alloc (.cells #[.int .i64 N.lvl,.slice X n1 c1,.slice Y m1 Z] 77)):=Qn;go_wp2_with (first
   |(refine Ub rfl (.tmp 4) (.tmp 31) rfl w.1.size rfl N.lvl X n1 c1 Y m1 Z rfl (R3.below H (by omega)) ?_;intro w5 R5 T5)
   |fail)
  refine bodyPost_ret (Gi Tryz.results37 rfl (Ew R5)) rfl ?_;exact⟨X,n1,c1,Y,m1,Z,rfl,a1,a0,((hI.below H).low T5 (λk hk=>by have h1:k=w.1.size:=hk;omega)).less (by omega),((hK.below H).turned T5 (λk hk e=>by have h1:=((hK.below H).Qc k hk).1;have h2:k=w.1.size:=e;omega)).less (by omega),(M.trans (H.mono M.size)).trans (T5.below (λk hk=>by omega) (by have:=M.size;have:=H.size;omega))⟩
def Pl.Qd (P:Pl)(D:DM)(a:Int):Int:=if P.C.get a=0 then 1 else match P.live a.toNat with
 |some (.node _)=>0
 |some (.bytes _ _)=>1
 |none=>if D.Yb a=0 then Xl (D.Yl a) a 5 else D.Yb a
def Pl.Qa (P:Pl)(D:DM)(a:Int):Nd:=if P.C.get a=0 then Zk else match P.live a.toNat with
 |some (.node N)=>N
 |some (.bytes _ _)=>Zk
 |none=>if D.Yb a=0 then Xm (D.Yl a) a else Zk
theorem q48 {N:Nd}(h:(Bk.node N).good):N.may=true:=by
 cases hm:N.may with
 |true=>rfl
 |false=>
  have h1:=h.len (a:=0) (g:=0) (by omega) q2a;have h2:(Bk.node N).out 0 0=[]:=by show Jr N _ _=[];unfold Jr;rw[if_neg (by rw[hm];decide)]
  rw[h2] at h1
  cases h1
theorem qu2 {N:Nd}(h:(Bk.node N).good){a:Nat}(f:a<=2047)(o:Int):Xm ((Bk.node N).out a 0) (a:Int)=N/\Xl ((Bk.node N).out a 0) (a:Int) o=0:=by
 have hm:=q48 h;have e:Zj ((Bk.node N).out a 0) (a:Int)=some N:=by
  show Zj (Jr N (a:Int) 0) (a:Int)=some N;rw[qc8 hm (q73 hm f q2a).1,if_pos rfl]
 unfold Xm Xl;rw[e];exact⟨rfl,rfl⟩
theorem qpp {k:Int}{l:List UInt8}(h:(Bk.bytes k l).good)(y:k=5\/k=6){a:Nat}(u:a<=2047)(o:Int):Xm ((Bk.bytes k l).out a 0) (a:Int)=Zk/\Xl ((Bk.bytes k l).out a 0) (a:Int) o=o:=by
 obtain⟨h1,h2,f⟩:=h.opens u q2a;have e:Zj ((Bk.bytes k l).out a 0) (a:Int)=none:=by
  unfold Zj;rw[if_pos f,h1];unfold Ci;split
  ·rw[if_neg];rintro⟨e,_⟩;have e:k=if ((Bk.bytes k l).hd a 0).level=0 then (3:Int) else 4:=e
   split at e<;>omega
  ·rfl
 unfold Xm Xl;rw[e];exact⟨rfl,rfl⟩
def Bk.kindOk (b:Bk):Prop:=match b with
 |.node _=>True
 |.bytes k l=>∃m,Uh k=some m/\l.length<=m
theorem qpq {k:Int}{l:List UInt8}(P:Pl)(e:∀a b,P.L a=some b->b.kindOk){a:Nat}(h:P.live a=some (.bytes k l)):k=5\/k=6:=by
 obtain⟨m,hm,_⟩:=e a _ (q9i h).2;exact (qc9 hm).1
theorem q74 {w:World}{p d:Nat}{S0 S T:Nat->Prop}{D:DM}{P:Pl}(K:Vp w d S0 D)(H:Pool w p d S T P)(W:∀a b,P.L a=some b->b.kindOk)(O:Tab w)(a:Int) :
  Calls Tryz.prog 37 #[.pointer (some ⟨p,0,none⟩),.int .i64 a] w λe w'=>q6f (P.Qa D a) (P.Qd D a) w e w':=by
 by_cases h0:P.C.get a=0
 ·have E:P.Qd D a=1:=if_pos h0;have F:P.Qa D a=Zk:=if_pos h0;rw[E,F];exact qfz (o:=0) (by omega) λu y=>(qtz (H.below y) a h0).mono λe w' h=>⟨_,_,_,h.1,by rw[<-h.2];exact Below.refl _ _⟩
 ·obtain⟨n,rfl,hn⟩:=Uc h0;have G:n<=2047:=by have:=H.ok.c.1;omega
  have R:P.Qd D (n:Int)=match P.live n with
    |some (.node _)=>0
    |some (.bytes _ _)=>1
    |none=>if D.Yb (n:Int)=0 then Xl (D.Yl (n:Int)) (n:Int) 5 else D.Yb (n:Int):=by unfold Pl.Qd;rw[if_neg h0,Int.toNat_natCast]
  have U:P.Qa D (n:Int)=match P.live n with
    |some (.node N)=>N
    |some (.bytes _ _)=>Zk
    |none=>if D.Yb (n:Int)=0 then Xm (D.Yl (n:Int)) (n:Int) else Zk:=by unfold Pl.Qa;rw[if_neg h0,Int.toNat_natCast]
  rw[R,U]
  cases I:P.live n with
  |some b=>
   have M:b.good:=by
    obtain⟨m,Q,l,clock,v,Z,L⟩:=H;exact L.good n b (q9i I).2
   have f:=qcd (w:=w) (p:=p) (a:=(n:Int)) (o:=1) (x:=b.out n 0) O λu y=>qmq (H.below y) n b I
   cases b with
   |node N=>
    obtain⟨E,F⟩:=qu2 M G 1;rw[E,F] at f;exact f
   |bytes k l=>
    obtain⟨E,F⟩:=qpp M (qpq P W I) G 1;rw[E,F] at f;exact f
  |none=>
   by_cases f:D.Yb (n:Int)=0
   ·have Y:=qcd (w:=w) (p:=p) (a:=(n:Int)) (o:=5) (x:=D.Yl (n:Int)) O λu y=>by
     have J:=qal (K.below y) (H.below y) n h0 I;rw[f] at J;exact J
    simp only[if_pos f];exact Y
   ·simp only[if_neg f];exact qfz (o:=5) f λu y=>(qal (K.below y) (H.below y) n h0 I).mono λe w' h=>by
     obtain⟨A,m,c,X,_,J⟩:=h;exact⟨A,m,c,X,J⟩
theorem qpr {w:World}{p d:Nat}{S0 S T:Nat->Prop}{D:DM}{P:Pl}(f:Vp w d S0 D)(H:Pool w p d S T P)(u:∀a b,P.L a=some b->b.kindOk)(y:Tab w)(a:Int) :
  Calls Tryz.prog 37 #[.pointer (some ⟨p,0,none⟩),.int .i64 a] w λe w'=>qpo (P.Qa D a) (P.Qd D a) w e w':=(q74 f H u y a).mono λ_ _ h=>h.ans
def Pl.store (P:Pl)(D:DM):Int->Nd × Int:=λa=>(P.Qa D a,P.Qd D a)
theorem qe1 {P:Pl}{c:Nat}(h:P.C.pick=some c){N:Nd}(e:N.may=true):P.Yw N=(c:Int)/\P.Jo N=0/\P.Jm N=P.lay (.node N):=by
 obtain⟨f,u,_⟩:=Ct.Jh h;unfold Pl.Yw Pl.Jo Pl.Jm;rw[if_pos e,if_pos e,if_pos e];exact⟨u,f,rfl⟩
theorem qps {P:Pl}{D:DM}{a:Int}(h:(P.store D a).2=0):∃n:Nat,a=(n:Int)/\n<P.C.n/\P.C.get (n:Int)≠0:=by
 have h0:P.C.get a≠0:=λe=>by
  have h:P.Qd D a=0:=h;unfold Pl.Qd at h;rw[if_pos e] at h
  cases h
 obtain⟨n,rfl,hn⟩:=Uc h0;exact⟨n,rfl,hn,h0⟩
theorem qpt {P:Pl}(D:DM){c:Nat}(h:P.C.pick=some c){N:Nd}(u:N.may=true):(P.Jm N).store D (c:Int)=(N,0):=by
 obtain⟨y,_⟩:=Ct.J4 h;have f:=qdx h (.node N) c y;have e:=qfq h (.node N) c;rw[if_pos rfl] at f e;rw[(qe1 h u).2.2];unfold Pl.store Pl.Qa Pl.Qd Pl.live;rw[Int.toNat_natCast,f,e];rfl
theorem qg0 {N:Nd}(e:N.may=true):(Bk.node N).fine:=(q4w e).fine
theorem qam {p:List Qg}(h:p≠[]):(⟨0,p,[]⟩:Nd).least=(Qz p 0).k:=by
 have e:0<p.length:=List.length_pos_iff.2 h;unfold Nd.least;rw[q1v,List.length_map,if_neg (by omega),q1b p e]
theorem qce (l:Int){q:List Qm}(h:q≠[]):(⟨l,[],q⟩:Nd).least=(Qh q 0).k:=by
 have e:0<q.length:=List.length_pos_iff.2 h;unfold Nd.least;rw[q5c,List.length_map,if_neg (by omega),q5d q e]
structure Qcv (l:Nat)(R:Int->Nd × Int)(Ns:List Nd)(rows:List (List Qg)):Prop where
 len:rows.length=Ns.length
 may:∀N∈Ns,N.may=true
 holds:∀(j:Nat) (N:Nd) (p:List Qg),Ns[j]?=some N->rows[j]?=some p->N.least=(Qz p 0).k/\∀(R':Int->Nd × Int) (a:Int),(∀b,(R b).2=0->R' b=R b)->R' a=(N,0)->Qi R' l a p
theorem qpu {G:List Ja}{x:Qg}:x∈rowOf G↔∃t∈G,x∈t.2:=by
 unfold rowOf;rw[List.mem_flatten];constructor
 ·rintro⟨r,u,f⟩;obtain⟨t,e,rfl⟩:=List.mem_map.1 u;exact⟨t,e,f⟩
 ·rintro⟨t,e,f⟩;exact⟨_,List.mem_map_of_mem e,f⟩
structure Grew (P P':Pl)(D:DM)(root:Int)(its:List Qg):Prop where
 tree:∃l,l<=6/\Qi (P'.store D) l root its
 ok:P'.ok
 n:P'.C.n=P.C.n
 S:P'.S=P.S
 free:10<=P'.C.free
 old:∀a,(P.store D a).2=0->P'.store D a=P.store D a
 lo:1<=root/\root<2048
theorem qmr {P:Pl}{D:DM}{n:Nat}(h0:P.C.get (n:Int)≠0)(f:P.live n=none)(e:D.Yb (n:Int)=0):P.store D (n:Int)=(Xm (D.Yl (n:Int)) (n:Int),Xl (D.Yl (n:Int)) (n:Int) 5):=by
 unfold Pl.store Pl.Qa Pl.Qd;rw[if_neg h0,if_neg h0,Int.toNat_natCast,f];dsimp only;rw[if_pos e,if_pos e]
theorem qms {P:Pl}{D:DM}{n:Nat}(h0:P.C.get (n:Int)≠0){b:Bk}(f:P.live n=some b)(e:(P.store D (n:Int)).2=0):∃N,b=.node N/\P.store D (n:Int)=(N,0):=by
 cases b with
 |node N=>
  refine⟨N,rfl,?_⟩;unfold Pl.store Pl.Qa Pl.Qd;rw[if_neg h0,if_neg h0,Int.toNat_natCast,f]
 |bytes k l=>
  have e:P.Qd D (n:Int)=0:=e;unfold Pl.Qd at e;rw[if_neg h0,Int.toNat_natCast,f] at e;have e:(1:Int)=0:=e;omega
section
open Go.ChangeMaps (setBlock)
def isNode:Option Bk->Bool
 |some (.node _)=>true
 |_=>false
def Pl.D8 (P:Pl)(a:Int)(N:Nd):Bool:=N.may&&(P.C.fresh a&&isNode (P.L a.toNat))
def Pl.Gl (P:Pl)(a:Int)(N:Nd):Int:=if P.D8 a N=true then 0 else 1
def Pl.Vm (P:Pl)(a:Int)(N:Nd):Pl:=if P.D8 a N=true then ⟨P.S,P.C,upd P.L a.toNat (some (.node N))⟩ else P
theorem q2w {C:Ct}{a:Int}(h:C.fresh a=true):C.get a≠0:=λh0=>by
 unfold Ct.fresh at h;rw[if_pos h0] at h
 cases h
def bkE:Bk->Int
 |.node _=>0
 |.bytes _ _=>1
theorem q9j {P:Pl}(D:DM){k:Nat}(h0:P.C.get (k:Int)≠0){b:Bk}(h:P.live k=some b):P.Qd D (k:Int)=bkE b:=by
 unfold Pl.Qd;rw[if_neg h0,Int.toNat_natCast,h]
 cases b<;>rfl
theorem qmt {w0 w:World}{p d:Nat}{S0 S T:Nat->Prop}{D:DM}{P:Pl}(L0:Vp w d S0 D)(H:Pool w p d S T P)(d5:∀a b,P.L a=some b->b.kindOk)(d3:∀a:Nat,P.C.fresh (a:Int)=true->∃b,P.L a=some b)(hT:∀k,T k->k<w.1.size)(B0:Below w0.1.size w0 w)(a:Int)(N:Nd)(A:Option Addr)(n c:Nat)(B:Option Addr)(F G:Nat)(hI:Jd w0 A n c N.items)(hK:Zp w0 B F G N.kids)(hn:n<=1000)(hm:F<=1000)(ht:Tab w) :
  Calls Tryz.prog 237 #[.pointer (some ⟨p,0,none⟩),.int .i64 a,.agg #[.int .i64 N.lvl,.slice A n c,.slice B F G]] w λe w'=>e=.returned (.int .i64 (P.Gl a N))/\Pool w' p d S T (P.Vm a N)/\Turn S w w':=by
 have Q:=H.ok;have N1:NB (w.alloc (.cells #[.int .i64 N.lvl,.slice A n c,.slice B F G] 77)) w.1.size N.lvl A n c B F G:=NB.new w _ _ _ _ _ _ _ _;have W:Below w.1.size w (w.alloc (.cells #[.int .i64 N.lvl,.slice A n c,.slice B F G] 77)):=Qn;have z1:(w.alloc (.cells #[.int .i64 N.lvl,.slice A n c,.slice B F G] 77)).1.size=w.1.size+1:=by simp
 obtain⟨r,hr⟩:∃r,N.may=r:=⟨_,rfl⟩;obtain⟨f,hf⟩:∃f,P.C.fresh a=f:=⟨_,rfl⟩;have a0:=Lib.hid (λw (hw:Below w0.1.size w0 w)=>q27 N r hr A n c B F G w (hI.below hw) (hK.below hw) hn hm);have a5:=Lib.hid (λ(w1:World) (H1:Pool w1 p d S T P)=>q83 H1 a f hf);have c0:=N1.c0;have c1:=N1.c1;have c2:=N1.c2;have t1:=ht.below W ht.1;have H1:=H.below W;have B1:=B0.trans (W.mono B0.size);have hE:P.Gl a N=if (r&&(f&&isNode (P.L a.toNat)))=true then 0 else 1:=by unfold Pl.Gl Pl.D8;rw[hr,hf]
 have hP:P.Vm a N=if (r&&(f&&isNode (P.L a.toNat)))=true then ⟨P.S,P.C,upd P.L a.toNat (some (.node N))⟩ else P:=by unfold Pl.Vm Pl.D8;rw[hr,hf]
 rw[hE,hP];clear hE hP
 cases r with
 |false=>
  clear hf hr;go_enter Tryz.func237,Tryz.ntmps237
  go_wp2_with fail
  generalize w.alloc (.cells #[.int .i64 N.lvl,.slice A n c,.slice B F G] 77)=w1 at W N1 z1 c0 c1 c2 t1 H1 B1 ⊢;refine (a0.out w1 B1).mono ?_;rintro e w2 ⟨rfl,b2⟩;have I:=W.trans (b2.mono (by omega));go_wp2;go_ret;exact⟨rfl,H.below I,Qu I⟩
 |true=>
  cases f with
  |false=>
   clear hf hr;go_enter Tryz.func237,Tryz.ntmps237
   go_wp2_with fail
   generalize w.alloc (.cells #[.int .i64 N.lvl,.slice A n c,.slice B F G] 77)=w1 at W N1 z1 c0 c1 c2 t1 H1 B1 ⊢;refine (a0.out w1 B1).mono ?_;rintro e w2 ⟨rfl,b2⟩;have I:=W.trans (b2.mono (by omega));have H2:=H.below I;go_wp2_with fail
   refine (a5.out w2 H2).mono ?_;rintro e y ⟨rfl,rfl⟩;go_wp2;go_ret;exact⟨rfl,H2,Qu I⟩
  |true=>
   have O:=q2w hf;obtain⟨k,rfl,hk⟩:=Uc O;rw[Int.toNat_natCast];have b3:k<=2047:=by have:=Q.c.1;omega
   obtain⟨b,K⟩:=d3 k hf;have a2:P.live k=some b:=by unfold Pl.live;rw[if_neg O];exact K
   have a8:=q9j D O a2;have R:=λ(w2:World) (bb:Below w.1.size w w2)=>qpr (L0.below bb) (H.below bb) d5 (ht.below bb ht.1) (k:Int)
   rw[a8] at R;obtain⟨M0,a7⟩:∃M0,P.Qa D (k:Int)=M0:=⟨_,rfl⟩;rw[a7] at R
   cases b with
   |bytes kk l=>
    rw[K];have a6:=Lib.hid R;clear hf hr R a8 a7 a2 K O;show Calls _ _ _ _ λe w'=>e=.returned (.int .i64 1)/\Pool w' p d S T P/\Turn S w w'
    go_enter Tryz.func237,Tryz.ntmps237
    go_wp2_with fail
    generalize w.alloc (.cells #[.int .i64 N.lvl,.slice A n c,.slice B F G] 77)=w1 at W N1 z1 c0 c1 c2 t1 H1 B1 ⊢;refine (a0.out w1 B1).mono ?_;rintro e w2 ⟨rfl,b2⟩;have I:=W.trans (b2.mono (by omega));have H2:=H.below I;go_wp2_with fail
    refine (a5.out w2 H2).mono ?_;rintro e y ⟨rfl,rfl⟩;go_wp2_with fail
    refine (a6.out w2 I).mono ?_;rintro e E ⟨A1,n1,q1,a4,m1,d1,rfl,_,_,_,_,b4⟩;have b5:Below E.1.size E (E.alloc (.cells #[.int .i64 0,.slice none 0 0,.slice none 0 0] 77)):=Qn;have R5:NB (E.alloc (.cells #[.int .i64 0,.slice none 0 0,.slice none 0 0] 77)) E.1.size 0 none 0 0 none 0 0:=NB.new E _ _ _ _ _ _ _ _;go_wp2_with (first
     |(refine Ub rfl _ _ rfl E.1.size rfl M0.lvl A1 n1 q1 a4 m1 d1 rfl R5 ?_;intro w6 R6 T6)
     |fail)
    go_ret;have B4:=I.trans (b4.mono I.size);have B6:Below w.1.size w w6:=(B4.trans (b5.mono B4.size)).trans (T6.below (λk hk=>by have:=B4.size;omega) (by have h1:=B4.size;have h2:=b5.size;omega));exact⟨rfl,H.below B6,Qu B6⟩
   |node M=>
    rw[K];have a6:=Lib.hid R;obtain⟨b6,d7,_⟩:=q73 hr b3 q2a;have b0:=q4w hr;have X:=b0.len (a:=k) (g:=0) b3 q2a;have b7:(Bk.node N).out k 0=Jr N (k:Int) 0:=rfl;rw[b7] at X;have c6:=Lib.hid b6;have d9:=Lib.hid X;have J:∀c:Nat,Pl.live ⟨P.S,P.C,upd P.L k (some (.node N))⟩ c=if c=k then some (.node N) else P.live c:=λc=>by
     unfold Pl.live;by_cases e:c=k
     ·subst e;rw[if_pos rfl,if_neg O];exact q0n _ _ _
     ·rw[if_neg e];show (if _ then _ else upd P.L k _ c)=_;rw[Ag _ _ e]
    have u:∀c x,(upd P.L k (some (.node N))) c=some x->x.good:=λc x h=>by
     by_cases e:c=k
     ·subst e;rw[q0n] at h;injection h with h;rw[<-h];exact b0
     ·rw[Ag _ _ e] at h;obtain⟨m,c8,l,clock,v,Sc,L⟩:=H;exact L.good c x h
    have a3:Pl.ok ⟨P.S,P.C,upd P.L k (some (.node N))⟩:=⟨Q.c,Q.res,Q.may,Q.sec,Q.gen,λc x h=>(u c x h).fine⟩;have b9:=Lib.hid J;have b8:=Lib.hid u;have a9:=Lib.hid a3;obtain⟨m,c8,l,clock,v,Sc,L⟩:=H;have Y:¬Zg (k:Int) l=none:=by rw[L.look k,a2];exact λh=>nomatch h
    have U:=Lib.hid Y;have e5:=L.Iq;have e3:=L.mlt;clear hf hr R a8 a7 a2 K O b6 d7 X b7 J u a3 Y;show Calls _ _ _ _ λe w'=>e=.returned (.int .i64 0)/\Pool w' p d S T ⟨P.S,P.C,upd P.L k (some (.node N))⟩/\Turn S w w'
    go_enter Tryz.func237,Tryz.ntmps237
    go_wp2_with fail
    generalize w.alloc (.cells #[.int .i64 N.lvl,.slice A n c,.slice B F G] 77)=w1 at W N1 z1 c0 c1 c2 t1 H1 B1 ⊢;refine (a0.out w1 B1).mono ?_;rintro e w2 ⟨rfl,b2⟩;have I:=W.trans (b2.mono (by omega));have H2:=H1.below b2;go_wp2_with fail
    refine (a5.out w2 H2).mono ?_;rintro e e7 ⟨rfl,rfl⟩;go_wp2_with fail
    refine (a6.out w2 I).mono ?_;rintro e E ⟨A1,n1,q1,a4,m1,d1,rfl,_,_,_,_,b4⟩;have b5:Below E.1.size E (E.alloc (.cells #[.int .i64 0,.slice none 0 0,.slice none 0 0] 77)):=Qn;have R5:NB (E.alloc (.cells #[.int .i64 0,.slice none 0 0,.slice none 0 0] 77)) E.1.size 0 none 0 0 none 0 0:=NB.new E _ _ _ _ _ _ _ _;have B4:=I.trans (b4.mono I.size);go_wp2_with (first
     |(refine Ub rfl _ _ rfl E.1.size rfl M0.lvl A1 n1 q1 a4 m1 d1 rfl R5 ?_;intro y R6 T6;have e0:(bkE (.node M)!=0)=false:=rfl)
     |fail)
    have B3:Below w.1.size w y:=(B4.trans (b5.mono B4.size)).trans (T6.below (λk hk=>by have:=B4.size;omega) (by have h1:=B4.size;have h2:=b5.size;omega));have z2:=b2.size;have z3:=B3.size;have N3:NB y w.1.size N.lvl A n c B F G:=by
     have N2:=N1.below b2 (by omega);have N4:=N2.below b4 N2.lt;have N5:=N4.below b5 N4.lt;have d6:=N5.lt;obtain⟨t,h⟩:=N5;exact⟨t,(T6.block w.1.size d6 (by have:=N4.lt;omega)).trans h⟩
    have L3:=L.below B3;have d8:=L3.c40;have t3:Tab y:=ht.below B3 ht.1;have d2:w.1.size≠m:=λe=>by have h1:=hT m (L.sub _ L.Yj.2.1);omega
    have hF:∀w',Below y.1.size y w'->w'.cell? ⟨p,40,none⟩=some (.map (some m))/\w'.cell? ⟨w.1.size,0,none⟩=some (.int .i64 N.lvl)/\w'.cell? ⟨w.1.size,1,none⟩=some (.slice A n c)/\w'.cell? ⟨w.1.size,2,none⟩=some (.slice B F G):=λw' K=>
     have N':=N3.below K N3.lt;⟨(K.cell (p:=⟨p,40,none⟩) (by show p<_;omega)).trans d8,N'.c0,N'.c1,N'.c2⟩
    have c9:∀w' (o:Obj),Below y.1.size y w'->(setBlock w' m o).cell? ⟨p,40,none⟩=some (.map (some m))/\(setBlock w' m o).cell? ⟨w.1.size,0,none⟩=some (.int .i64 N.lvl)/\(setBlock w' m o).cell? ⟨w.1.size,1,none⟩=some (.slice A n c)/\(setBlock w' m o).cell? ⟨w.1.size,2,none⟩=some (.slice B F G):=λw' o K=>by
     have hz:=K.size;have e4:=N3.lt;have TB:Turn (λk=>k=m) w' (setBlock w' m o):=Rj _ rfl;obtain⟨h1,h2,h3,h4⟩:=hF w' K;have e1:=TB.block p (by omega) L.p_m;have e2:=TB.block w.1.size (by omega) d2;exact⟨(World.cell?_of_block (a:=⟨p,40,none⟩) e1).trans h1,(World.cell?_of_block (a:=⟨w.1.size,0,none⟩) e2).trans h2,(World.cell?_of_block (a:=⟨w.1.size,1,none⟩) e2).trans h3,(World.cell?_of_block (a:=⟨w.1.size,2,none⟩) e2).trans h4⟩
    have BD:Below y.1.size y y.drew:=(Below.refl _ _).drew;have c7:=Lib.hid (λ(w':World) (K:Below y.1.size y w') (v':Value)=>(congrArg (λz:Nat=>Result.ok () (setBlock w' m (.map (Zv (k:Int) v' clock l).toArray z))) (if_neg U.out)).subst (motive:=λr=>(Instr.mapUpdate 123 (.map (some m)) (.int .i64 (k:Int)) v').run Tryz.prog w'=r) (q1h L.ents Tryz.underlying123 Tryz.underlying3 ((K.block m (by omega)).trans L3.map) (k:Int) v'));have BI:=B0.trans ((B3.trans (BD.mono B3.size)).mono B0.size);clear c0 c1 c2 H1 H2 R6 R5;go_wp2_with fail
    go_region_held3 (λw'=>w'.cell? ⟨p,40,none⟩=some (.map (some m))/\w'.cell? ⟨w.1.size,0,none⟩=some (.int .i64 N.lvl)/\w'.cell? ⟨w.1.size,1,none⟩=some (.slice A n c)/\w'.cell? ⟨w.1.size,2,none⟩=some (.slice B F G))
     (first|assumption|exact hF _ BD|exact hF _ a1|exact c9 _ _ a1)
     (first
      |(go_at_call 251;refine (qcb N (k:Int) 0 A n c B F G _ (hI.below BI) (hK.below BI) hn hm (t3.below BD t3.1)).mono ?_;rw[c6.out];rintro e E ⟨A3,n3,c3,rfl,Z,d4,d0⟩;have a1:Below y.1.size y E:=BD.trans d0;have e6:=c7.out E a1)
      |fail)
    obtain⟨q,rfl,rfl,rfl⟩:=d4 (by first|trivial|rfl);have hq:=(Z.block ⟨q,0,none⟩ rfl).1;obtain⟨R1,R2⟩:=L3.store (P':=⟨P.S,P.C,upd P.L k (some (.node N))⟩) (b:=.node N) (Turn.refl _ _) L3.ct a1 rfl rfl hk b9.out b8.out a9.out Z.sl (λh=>by have h1:=hT q h;have h2:y.drew.1.size=y.1.size:=rfl;have h3:y.drew.1.size<=q:=hq;omega);rw[if_neg U.out] at R1 R2;go_wp2;go_ret;exact⟨rfl,R1,(Qu (S:=S) B3).trans R2 λk hk=>.inl hk⟩
end
def Pl.cnt (P:Pl)(a:Nat):Nat:=(P.C.get (a:Int)).toNat
def Pl.names (P:Pl)(D:DM)(a:Nat):List Int:=(P.Qa D (a:Int)).named
def Pl.Vz (P:Pl)(D:DM)(H:List Int):Prop:=Jz P.C.n P.cnt (P.names D) H
theorem q84 {P:Pl}{a:Nat}(e:P.C.ok):1<=P.cnt a↔P.C.get (a:Int)≠0:=by
 have:=(Ct.Zd e (a:Int)).1;unfold Pl.cnt;omega
theorem qe2 {P:Pl}(f:P.C.res):P.cnt 0=0:=by
 have h:P.C.get ((0:Nat):Int)=0:=by
  by_cases e:P.C.get ((0:Nat):Int)=0
  ·exact e
  ·have:=(Ct.Vf f e).2.2;have h2:P.C.first=2+2*Ql P.C.n:=rfl
   simp at this;omega
 unfold Pl.cnt;rw[h];rfl
theorem Oh (C:Ct){c:Nat}{x:Int}(b:Nat)(e:b<C.n):(C.put c x).get (b:Int)=if b=c then x else C.get (b:Int):=by
 unfold Ct.get;rw[C.Zf,if_pos (show 0<=(b:Int)/\(b:Int)<(C.n:Int) by omega),if_pos (show 0<=(b:Int)/\(b:Int)<(C.n:Int) by omega),Int.toNat_natCast,q4t C c x b e]
structure Wy (D:DM)(P:Pl)(S0:Sp)(C0:Ct):Prop where
 ok:P.ok
 sound:Sound D P S0 C0
 kinds:∀a b,P.L a=some b->b.kindOk/\b.good
theorem Wy.kind {D:DM}{P:Pl}{S0:Sp}{C0:Ct}(h:Wy D P S0 C0):∀a b,P.L a=some b->b.kindOk:=λa b e=>(h.kinds a b e).1
theorem Wy.good {D:DM}{P:Pl}{S0:Sp}{C0:Ct}(h:Wy D P S0 C0):∀a b,P.L a=some b->b.good:=λa b e=>(h.kinds a b e).2
theorem Wy.put {D:DM}{P:Pl}{S0:Sp}{C0:Ct}(h:Wy D P S0 C0){N:Nd}(hN:N.may=true)(hf:0<P.C.free):Wy D (P.Jm N) S0 C0/\P.Jo N=0/\(P.Jm N).C.free+1=P.C.free:=by
 obtain⟨c,f⟩:=Ct.Bl hf;obtain⟨_,F,u⟩:=qe1 f hN;have y:=Ct.U3 f;have E:(P.Jm N).C=P.C.alloc:=by rw[u,q2n f]
 refine⟨⟨by rw[u];exact qk8 h.ok (qg0 hN),by rw[u];exact qfp h.sound _,λa b e=>?_⟩,F,by rw[E];exact y⟩;rw[u,qfq f] at e;split at e
 ·obtain rfl:=Option.some.inj e;exact⟨trivial,q4w hN⟩
 ·exact h.kinds a b e
def Zl (R:Int->Nd × Int)(root:Int)(its:List Qg):Prop:=(its=[]/\root=0)\/∃l,l<=6/\Qi R l root its/\1<=root/\root<2048
structure Lvl (D:DM)(its:List Qg)(f l:Nat)(P:Pl)(Ns:List Nd):Prop where
 Qc8:∃rows,Qcv l (P.store D) Ns rows/\rows.flatten=its
 ok:P.ok
 free:2*Ns.length+10<=P.C.free
 one:1<=Ns.length
 fuel:l+f<=6
 need:1<=f/\(2<=Ns.length->2<=f)/\(13<=Ns.length->3<=f)/\Ns.length<=66
def Ug (R:Int->Nd × Int)(a:Int):Nat:=(R a).1.lvl.toNat
def Ia (R:Int->Nd × Int)(k:Kd)(root:Int):List UInt8 × Int:=if root=0 then ([],10) else Ac R k (Ug R root) root
def Ib (R:Int->Nd × Int)(root:Int):Int × Int:=if root=0 then (0,0) else if (R root).2≠0 then (0,(R root).2) else ((R root).1.lvl+1,0)
theorem Ce {R:Int->Nd × Int}:∀{l:Nat} {a:Int} {its:List Qg},Qi R l a its->Ug R a=l/\(R a).1.lvl=(l:Int)/\(R a).2=0
 |0,a,its,h=>by
  unfold Ug;rw[h.1];exact⟨rfl,rfl,rfl⟩
 |l+1,a,its,h=>by
  obtain⟨kids,parts,h1,_⟩:=h;unfold Ug;rw[h1];exact⟨Int.toNat_natCast _,rfl,rfl⟩
theorem qu3 {R:Int->Nd × Int}{root:Int}{its:List Qg}(h:Zl R root its)(e:Qk its)(k:Kd):Ia R k root=Tq (valOf its k):=by
 unfold Ia;rcases h with⟨rfl,rfl⟩|⟨l,_,h,h1,_⟩
 ·rw[if_pos rfl];rfl
 ·rw[if_neg (by omega),(Ce h).1,qhf k l root its h e]
theorem qcf {ks:List Kd}(h:rises ks=true):∀(j i:Nat),i<j->j<ks.length->(keyAt ks i).less (keyAt ks j)=true
 |0,i,hi,_=>absurd hi (Nat.not_lt_zero _)
 |j+1,i,hi,hj=>by
  have h1:Ws ks (j+1)=true:=by
   unfold rises at h;rw[List.all_eq_true] at h;exact h _ (List.mem_range.2 hj)
  have h2:(keyAt ks j).less (keyAt ks (j+1))=true:=by
   unfold Ws at h1;simp at h1;exact h1.2
  by_cases e:i=j
  ·rw[e];exact h2
  ·exact Kd.trans _ _ _ (qcf h j i (by omega) (by omega)) h2
theorem q16 {N:Nd}(hm:N.may=true)(h0:N.lvl=0):N=⟨0,N.items,[]⟩/\Qk N.items/\1<=N.items.length/\N.items.length<=6:=by
 have H:=(q1n hm).1 h0;unfold Nd.may at hm;rw[if_pos h0,Bool.and_eq_true,Bool.and_eq_true] at hm;obtain⟨_,h2,f⟩:=hm;have f:=of_decide_eq_true f;refine⟨by cases N;simp_all,?_,f.2⟩;have G:N.keys=N.items.map (·.k):=by unfold Nd.keys;rw[H];simp
 rw[G] at h2;unfold Qk;rw[List.pairwise_iff_getElem];intro i j E y u;have:=qcf h2 j i u (by rw[List.length_map];exact y);rw[q1b _ E,q1b _ y] at this;have e:∀q (F:q<N.items.length),Qz N.items q=N.items[q]:=λq F=>by unfold Qz;rw[List.getD_eq_getElem?_getD,List.getElem?_eq_getElem F];rfl
 rwa [e i E,e j y] at this
theorem Fe {N:Nd}(hm:N.may=true)(h0:N.lvl≠0):N=⟨N.lvl,[],N.kids⟩/\1<=N.lvl/\N.lvl<8/\2<=N.kids.length/\N.kids.length<=12/\∀k,N.Zb k<N.kids.length:=by
 have H:=(q1n hm).2 h0;unfold Nd.may at hm;rw[if_neg h0,Bool.and_eq_true,Bool.and_eq_true] at hm;obtain⟨_,h2,G⟩:=hm;obtain⟨u,y,_,E,F⟩:=of_decide_eq_true G;refine⟨by cases N;simp_all,u,y,E,F,λk=>?_⟩;have f:N.keys=N.kids.map (·.k):=by unfold Nd.keys;rw[H];simp
 unfold Nd.Zb;rw[if_neg h0,f,List.length_map];rcases q7n (N.kids.map (·.k)) k N.kids.length with e|e<;>omega
theorem q75 {P:Pl}{D:DM}{a:Int}(h:P.Qd D a≠0):P.Qa D a=Zk:=by
 unfold Pl.Qd at h;unfold Pl.Qa;by_cases h0:P.C.get a=0
 ·rw[if_pos h0]
 ·rw[if_neg h0] at h ⊢;split at h
  ·exact absurd rfl h
  ·rfl
  ·by_cases e:D.Yb a=0
   ·rw[if_pos e] at h ⊢;unfold Xl at h;unfold Xm
    cases f:Zj (D.Yl a) a with
    |none=>rfl
    |some N=>rw[f] at h;exact absurd rfl h
   ·rw[if_neg e]
structure Pl.Yp (P:Pl)(D:DM):Prop where
 may:∀a:Nat,a<P.C.n->P.C.get (a:Int)≠0->P.Qd D (a:Int)=0->(P.Qa D (a:Int)).may=true
 data:∀a:Nat,a<P.C.n->P.C.get (a:Int)≠0->P.Qd D (a:Int)=0->∀x∈(P.Qa D (a:Int)).items,∀c:Int,Y4 x=some c->P.Qd D c≠0
 kids:∀a:Nat,a<P.C.n->P.C.get (a:Int)≠0->P.Qd D (a:Int)=0->∀x∈(P.Qa D (a:Int)).kids,∃c:Nat,x.a=(c:Int)/\0<c/\c<P.C.n/\P.C.get (c:Int)≠0/\P.Qd D (c:Int)=0/\(P.Qa D (c:Int)).lvl+1=(P.Qa D (a:Int)).lvl/\(P.Qa D (c:Int)).least=x.k
def Pl.Gx (P:Pl)(D:DM)(a:Nat):Nat:=if P.Qd D (a:Int)=0 then (P.Qa D (a:Int)).lvl.toNat+1 else 0
theorem q85 {N:Nd}(h:N.may=true):0<=N.lvl/\N.lvl<8:=by
 by_cases h0:N.lvl=0
 ·omega
 ·have:=(Fe h h0).2;omega
section
variable {P:Pl}{D:DM}
theorem q2x {b a:Nat}(hm:(a:Int)∈P.names D b):P.Qd D (b:Int)=0:=by
 by_cases h:P.Qd D (b:Int)=0
 ·exact h
 ·unfold Pl.names at hm;rw[q75 h] at hm
  cases hm
theorem q3k {b:Nat}(h:P.Qd D (b:Int)=0):P.C.get (b:Int)≠0:=λe=>by
 unfold Pl.Qd at h;rw[if_pos e] at h
 cases h
theorem q86 (h:P.Yp D){b a:Nat}(y:b<P.C.n)(hm:(a:Int)∈P.names D b):((∃x∈(P.Qa D (b:Int)).kids,x.a=(a:Int))/\0<a/\a<P.C.n/\P.C.get (a:Int)≠0/\P.Qd D (a:Int)=0/\(P.Qa D (a:Int)).lvl+1=(P.Qa D (b:Int)).lvl)\/P.Qd D (a:Int)≠0:=by
 have u:=q2x hm;have h0:=q3k u;unfold Pl.names Nd.named at hm;rcases List.mem_append.1 hm with hm|hm
 ·obtain⟨x,f,e⟩:=List.mem_map.1 hm;obtain⟨c,h1,h2,E,F,G,H,_⟩:=h.kids b y h0 u x f;have:a=c:=by rw[h1] at e;omega
  subst this;exact .inl ⟨⟨x,f,e⟩,h2,E,F,G,H⟩
 ·obtain⟨x,f,e⟩:=List.mem_filterMap.1 hm;exact .inr (h.data b y h0 u x f _ e)
theorem qcg (h:P.Yp D)(b a:Nat)(u:b<P.C.n)(hm:(a:Int)∈P.names D b):P.Gx D a<P.Gx D b:=by
 have f:=q2x hm;unfold Pl.Gx;rw[if_pos f];rcases q86 h u hm with⟨_,F,y,E,e,G⟩|k
 ·have H:=q85 (h.may a y E e);rw[if_pos e];omega
 ·rw[if_neg k];omega
theorem qpv (h:P.Yp D)(b:Nat):P.Gx D b<=8:=by
 unfold Pl.Gx;by_cases f:P.Qd D (b:Int)=0
 ·rw[if_pos f];have h0:=q3k f;obtain⟨c,e,u⟩:=Uc h0;have e:b=c:=by omega
  subst e;have y:=q85 (h.may b u h0 f);omega
 ·rw[if_neg f];omega
theorem q3e {H:List Int}(Q:P.Vz D H)(h:P.Yp D)(O:P.C.ok)(f:P.C.res){S:Nat->Prop}(K:∀a:Nat,0<a->a<P.C.n->(a:Int)∈H->P.Qd D (a:Int)=0->S a)
  (J:∀b a:Nat,0<b->b<P.C.n->0<a->a<P.C.n->P.Qd D (b:Int)=0->S b->(∃x∈(P.Qa D (b:Int)).kids,x.a=(a:Int))->S a) (a:Nat) (h1:a<P.C.n) (h2:P.Qd D (a:Int)=0):S a:=by
 have F:1<=P.cnt a:=(q84 O).2 (q3k h2);have u:0<a:=by
  rcases Nat.eq_zero_or_pos a with e|e
  ·subst e;have:=qe2 f;omega
  ·exact e
 exact Jz.reached Q (B:=8) (P.Gx D) (λb a y _ hm=>qcg h b a y hm) (qpv h) (qe2 f) (S:=λa=>P.Qd D (a:Int)=0->S a) K (λb a G y u M _ E hm I=>by
  rcases q86 h y hm with⟨R,_⟩|k
  ·exact J b a G y u M (q2x hm) (E (q2x hm)) R
  ·exact absurd I k) (8-P.Gx D a) a (Nat.le_refl _) u h1 F h2
end
section
variable {b:Nat}{w w':World}{d p:Nat}{S0 S T S':Nat->Prop}{D:DM}{P:Pl}
theorem Qe.below (H:Qe b w d p S0 S T D P)(hb:Below w.1.size w w'):Qe b w' d p S0 S T D P:=
 ⟨H.Ba.below hb,H.pool.below hb,H.sub,H.apart,λk e=>⟨(H.tight k e).1,by have:=(H.tight k e).2;have:=hb.size;omega⟩⟩
theorem Qe.more (H:Qe b w d p S0 S T D P)(hb:Below w.1.size w w'):Qe b w' d p S0 S (grow T w w') D P:=by
 have u:=H.base;have f:=H.Dv;have y:=hb.size;refine⟨H.Ba.below hb,(H.pool.mono (S':=S) (T':=grow T w w') (λk _ h=>h) (λk e h=>?_) (λk h=>⟨.inl (f k h),by have:=(H.tight k (f k h)).2;omega⟩)).below hb,λk e=>⟨.inl (H.sub k e),by have:=(H.tight k (H.sub k e)).2;omega⟩,H.apart,λk e=>⟨e.1.elim (λh=>(H.tight k h).1) λh=>by omega,e.2⟩⟩;exact h.1.elim id λh=>by omega
theorem Qe.own (H:Qe b w d p S0 S T D P)(t:Turn S' w w')(hT:∀k,S' k->T k)(h0:∀k,S' k->¬S0 k)(h1:∀k,S' k->¬S k):Qe b w' d p S0 S T D P:=
 ⟨H.Ba.keep λk e f=>t.block k e λh=>h0 k h f,H.pool.other t hT h1,H.sub,H.apart,λk e=>⟨(H.tight k e).1,by have:=(H.tight k e).2;have:=t.size;omega⟩⟩
theorem Qe.sys (H:Qe b w d p S0 S T D P):Sys b w d p T D P:=⟨S0,S,H⟩
end
def Ot (w:World)(base:Nat)(A:Option Addr)(n c:Nat)(an:List Nat):Prop:=Qo w base 3 1 A n c (an.map λ(a:Nat)=>[.int .i64 (a:Int)])
section
variable {w w':World}{base:Nat}{A:Option Addr}{n c:Nat}{an:List Nat}
theorem Ot.len (h:Ot w base A n c an):an.length=n:=by
 have:=Qo.len h (by omega);rw[List.length_map] at this;omega
theorem Ot.cell (h:Ot w base A n c an){i:Nat}(hi:i<n):∃e a,A=some e/\an[i]?=some a/\w.cell? (e.add i)=some (.int .i64 (a:Int))/\e.block<w.1.size:=by
 have F:=h.len;have E:=Qo.Kt h (by omega);obtain⟨g,o,f,u,_,y⟩:=E.2.2.2 i _ (List.getElem?_eq_getElem (by rw[List.length_map];omega));have h0:=y 0 (.int .i64 ((an[i]'(by omega):Nat):Int)) (by rw[List.getElem_map];rfl);rw[Nat.mul_one,Nat.add_zero] at h0;exact⟨⟨g,o,none⟩,_,f,List.getElem?_eq_getElem (by omega),by rw[Addr.add_mid];exact h0,u⟩
theorem Ot.cap (h:Ot w base A n c an):n<=c/\c<=maxLen:=by
 have e:=Qo.Kt h (by omega);exact⟨e.cap,e.max⟩
end
theorem qg1 {b:List UInt8}{a:Int}{N:Nd}(h:Zj b a=some N):N.may=true:=by
 unfold Zj at h;split at h
 ·unfold Ci at h
  cases f:Ju (Yf b).level (Ul b) (Yf b).count.toNat with
  |none=>rw[f] at h;cases h
  |some x=>
   obtain⟨M,r⟩:=x;rw[f] at h;dsimp only at h;by_cases e:(Yf b).kind=(if (Yf b).level=0 then 3 else 4)/\(Yf b).addr=a/\Y5 r=true/\M.may=true
   ·rw[if_pos e] at h;obtain rfl:=Option.some.inj h;exact e.2.2.2
   ·rw[if_neg e] at h
    cases h
 ·cases h
theorem qpw {P:Pl}{D:DM}(F:∀a b,P.L a=some b->b.good)(a:Int)(h:(P.store D a).2=0):(P.store D a).1.may=true:=by
 obtain⟨n,rfl,hn,h0⟩:=qps h
 cases y:P.live n with
 |some b=>
  obtain⟨N,rfl,e⟩:=qms h0 y h;rw[e];exact q48 (F n _ (q9i y).2)
 |none=>
  have f:P.Qd D (n:Int)=0:=h;unfold Pl.Qd at f;rw[if_neg h0,Int.toNat_natCast,y] at f;dsimp only at f;by_cases u:D.Yb (n:Int)=0
  ·rw[qmr h0 y u];rw[if_pos u] at f;unfold Xl at f;unfold Xm
   cases E:Zj (D.Yl (n:Int)) (n:Int) with
   |some N=>exact qg1 E
   |none=>rw[E] at f;simp at f
  ·rw[if_neg u] at f;exact absurd f u
structure Src (w0:World)(p:Nat)(R:Int->Nd × Int):Prop where
 node:∀u,Below w0.heap.size w0 u->Tab u->∀a,Calls Tryz.prog 37 #[.pointer (some ⟨p,0,none⟩),.int .i64 a] u λe w'=>q6f (R a).1 (R a).2 u e w'
 may:∀a,(R a).2=0->(R a).1.may=true
theorem qz0 {w:World}{p d:Nat}{S0 S T:Nat->Prop}{D:DM}{P:Pl}(f:Vp w d S0 D)(H:Pool w p d S T P)(y:∀a b,P.L a=some b->b.kindOk)(u:∀a b,P.L a=some b->b.good):Src w p (P.store D):=
 ⟨λ_ e E a=>q74 (f.below e) (H.below e) y E a,λa h=>qpw u a h⟩
theorem Src.below {w0 w1:World}{p:Nat}{R:Int->Nd × Int}(h:Src w0 p R)(hb:Below w0.1.size w0 w1):Src w1 p R:=
 ⟨λu f e a=>h.node u (hb.trans (f.mono hb.size)) e a,h.may⟩
