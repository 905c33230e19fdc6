/- The code's pool: Ref, Fresh; the superblock is set -/
import Derived.Test.YtnnbaihfboacoaaGreatDoorEr25
import Derived.Test.YtnnbaihfboacoaaGreatDoorEr26
namespace Go.Proofs.YtnnbaihfboacoaaGreatDoor
open Go Go.RowKit Go.Proofs
set_option maxHeartbeats 8000000
set_option maxRecDepth 100000
section
theorem qt6 (C:Ct)(a:Int)(c:Nat)(m:C.ok):(C.ref a).get (c:Int)=0↔C.get (c:Int)=0:=by
 by_cases h:C.Y8 a=0
 ·have f:C.ref a=C.put a.toNat (C.get a+1):=by unfold Ct.ref;rw[if_pos h]
  have h0:C.get a≠0:=λe=>by unfold Ct.Y8 at h;rw[if_pos e] at h;omega
  have F:0<=a/\a<(C.n:Int):=Classical.byContradiction λh2=>h0 (by unfold Ct.get;rw[if_neg h2])
  have G:=C.Jc m a;obtain⟨V,B⟩:∃V,C.get a+1=V:=⟨_,rfl⟩;rw[f,B];by_cases E:c<C.n
  ·have h1:(C.put a.toNat V).get (c:Int)=nm (C.put a.toNat V).now c:=by unfold Ct.get;rw[C.Zi,if_pos (by omega),Int.toNat_natCast]
   have h2:C.get (c:Int)=nm C.now c:=by unfold Ct.get;rw[if_pos (by omega),Int.toNat_natCast]
   rw[h1,q6d _ _ _ _ E];by_cases e:c=a.toNat
   ·have y:(c:Int)=a:=by omega
    rw[if_pos e,y];constructor
    ·intro u;omega
    ·intro u;exact absurd u h0
   ·rw[if_neg e,h2]
  ·have h1:(C.put a.toNat V).get (c:Int)=0:=by unfold Ct.get;rw[C.Zi,if_neg (by omega)]
   have h2:C.get (c:Int)=0:=by unfold Ct.get;rw[if_neg (by omega)]
   rw[h1,h2]
 ·have f:C.ref a=C:=by unfold Ct.ref;rw[if_neg h]
  rw[f]
theorem qxx {P:Pl}(h:P.ok)(a:Int):Pl.ok ⟨P.S,P.C.ref a,P.L⟩:=
 ⟨Ct.Qas h.c a,Ct.Qat h.res a,h.may,by show P.S.Qb=((P.C.ref a).n:Int);rw[Ct.Qa1];exact h.sec,h.gen,h.fine⟩
theorem qt7 {w:World}{p d:Nat}{S T:Nat->Prop}{P:Pl}(H:Pool w p d S T P)(a:Int) :
  Calls Tryz.prog 20 #[.pointer (some ⟨p,0,none⟩),.int .i64 a] w λe w'=>e=.returned (.int .i64 (P.C.Y8 a))/\Pool w' p d S T ⟨P.S,P.C.ref a,P.L⟩/\Turn S w w':=by
 have f:=H.ok;obtain⟨m,F,l,clock,v,M,L⟩:=H;have u:=qss L.ct a;have O:=L.Ie;have y:=Lib.hid (qxx f a);have K:=Lib.hid (λc=>qt6 P.C a c f.c);obtain⟨E,I⟩:∃E,P.C.Y8 a=E:=⟨_,rfl⟩;rw[I] at u ⊢;have B:=Lib.hid u;clear u I f;go_enter Tryz.func20,Tryz.ntmps20
 go_wp2_with fail
 refine B.out.mono ?_;rintro e Q ⟨rfl,J,G⟩;have R:=L.Qbl G J (Ct.Qa1 _ _) (λc=>K.out c) y.out;go_wp2;go_ret;exact⟨rfl,⟨m,F,l,clock,v,M,R⟩,G.mono L.Xu.2.2⟩
theorem q7q {w:World}{p d:Nat}{S T:Nat->Prop}{P:Pl}(H:Pool w p d S T P)(a:Int)(r:Bool)(y:P.C.fresh a=r) :
  Calls Tryz.prog 144 #[.pointer (some ⟨p,0,none⟩),.int .i64 a] w λe w'=>e=.returned (.bool r)/\w=w':=by
 obtain⟨m,u,l,clock,v,B,L⟩:=H;have f:=qlw L.ct a r y;go_enter Tryz.func144,Tryz.ntmps144
 go_wp2_with fail
 refine f.mono ?_;rintro e E ⟨rfl,rfl⟩;go_wp2;go_ret;exact⟨rfl,rfl⟩
attribute [local go_sem ↓] q1n
end
section
open Go.ChangeMaps (setBlock)
theorem q5k {N:Nd}(hm:N.may=true){a:Nat}{g:Int}(E:a<=2047)(m:Es g):Zk N (a:Int) g=0/\Jm N (a:Int) g=Zr (N.head (a:Int) g) N.body/\(N.head (a:Int) g).ok=true:=by
 have e:Zk N (a:Int) g=0:=Classical.byContradiction λh=>by
  have h2:=(qsp hm h).2;have y:=m.1;have B:=m.2;omega
 refine⟨e,?_⟩;unfold Zk at e;rw[if_pos hm] at e;obtain⟨f,_,u⟩:=q7b _ _ e;refine⟨?_,f⟩;unfold Jm;rw[if_pos hm,u]
theorem q6r {N:Nd}(hm:N.may=true):(Bk.node N).good:=⟨λ_ _ e f=>(q5k hm e f).2.2,qof hm,λ_ _ e f=>(q5k hm e f).2.1⟩
def Pl.Xg (P:Pl)(N:Nd):Int:=if N.may=true then P.C.Uy else 0
def Pl.Jq (P:Pl)(N:Nd):Int:=if N.may=true then P.C.Uf else 1
def Pl.Zn (P:Pl)(N:Nd):Pl:=if N.may=true then P.lay (.node N) else P
end
section
open Go.ChangeMaps (setBlock)
theorem Ae {C:Ct}{a:Int}(h:C.get a≠0):∃n:Nat,a=(n:Int)/\n<C.n:=by
 have e:0<=a/\a<(C.n:Int):=Classical.byContradiction λh2=>h (by unfold Ct.get;rw[if_neg h2])
 exact⟨a.toNat,by omega,by omega⟩
end
structure Qi (b:Nat)(w:World)(d p:Nat)(S0 S T:Nat->Prop)(D:DM)(P:Pl):Prop where
 U8:Y9 w d S0 D
 pool:Pool w p d S T P
 sub:∀k,S0 k->T k
 apart:∀k,S0 k->¬S k
 tight:∀k,T k->b<=k/\k<w.heap.size
def Sys (b:Nat)(w:World)(d p:Nat)(T:Nat->Prop)(D:DM)(P:Pl):Prop:=∃S0 S,Qi b w d p S0 S T D P
def grow (T:Nat->Prop)(w w':World):Nat->Prop:=λk=>(T k\/w.1.size<=k)/\k<w'.1.size
def Dr (b:Nat)(w:World)(d:Nat)(T:Nat->Prop)(D:DM):Prop:=∃S0,Y9 w d S0 D/\(∀k,S0 k->T k)/\∀k,T k->b<=k/\k<w.1.size
section
variable {b:Nat}{w w':World}{d p:Nat}{T:Nat->Prop}{D:DM}{P:Pl}
theorem Qi.Cj {S0 S:Nat->Prop}(H:Qi b w d p S0 S T D P):∀k,S k->T k:=by
 obtain⟨m,e,l,clock,v,f,L⟩:=H.pool;exact L.sub
theorem Qi.base {S0 S:Nat->Prop}(H:Qi b w d p S0 S T D P):b<=w.1.size:=by
 obtain⟨m,e,l,clock,v,f,L⟩:=H.pool;have:=(H.tight _ (L.sub _ L.Xu.1)).1;have:=L.Ie;omega
theorem Sys.below (H:Sys b w d p T D P)(hb:Below w.1.size w w'):Sys b w' d p T D P:=by
 obtain⟨S0,S,H⟩:=H;exact⟨S0,S,H.U8.below hb,H.pool.below hb,H.sub,H.apart,λk e=>⟨(H.tight k e).1,by have:=(H.tight k e).2;have:=hb.size;omega⟩⟩
theorem Sys.ok (H:Sys b w d p T D P):P.ok:=by
 obtain⟨S0,S,H⟩:=H;exact H.pool.ok
theorem Sys.Qb (H:Sys b w d p T D P):Qb D.n:=by
 obtain⟨S0,S,H⟩:=H;exact H.U8.Qb
theorem Sys.tight (H:Sys b w d p T D P):∀k,T k->b<=k/\k<w.1.size:=by
 obtain⟨S0,S,H⟩:=H;exact H.tight
theorem Sys.base (H:Sys b w d p T D P):b<=w.1.size:=by
 obtain⟨S0,S,H⟩:=H;exact H.base
theorem Dr.below (H:Dr b w d T D)(hb:Below w.1.size w w'):Dr b w' d T D:=by
 obtain⟨S0,H,h1,h2⟩:=H;exact⟨S0,H.below hb,h1,λk e=>⟨(h2 k e).1,by have:=(h2 k e).2;have:=hb.size;omega⟩⟩
theorem qxy {m w:World}{d p q:Nat}{S0:Nat->Prop}{D:DM}{P:Pl}(H:Si m w p d q S0 D P)(f:∀k,S0 k->b<=k)(u:b<=m.1.size):Sys b w d p (λk=>b<=k/\k<w.1.size) D P:=by
 refine⟨λk=>(S0 k\/m.1.size<=k)/\k<q,λk=>q<=k/\k<w.1.size,H.U8,?_,λk e=>?_,λk e h=>?_,λk e=>e⟩
 ·have h:=H.pool (λk=>b<=k) (λk e=>by have:=H.ge.1;omega);exact h.mono (λk e h=>⟨h,e⟩) (λk e h=>h.1) λk e=>⟨by have:=H.ge.1;omega,e.2⟩
 ·have:=H.ge.2;exact⟨e.1.elim (f k) λh=>by omega,by omega⟩
 ·omega
end
theorem q93 {P:Pl}{a:Nat}{b:Bk}(h:P.live a=some b):P.C.get (a:Int)≠0/\P.L a=some b:=by
 unfold Pl.live at h;split at h
 ·cases h
 ·rename_i h0;exact⟨h0,h⟩
theorem qxc (P:Pl):P.new.length<=P.C.n:=by
 unfold Pl.new;have:=List.length_filterMap_le P.Ib (List.range P.C.n);rwa [List.length_range] at this
theorem qux {P:Pl}(h:P.ok):P.steps.length<=2100:=by
 have h1:=Pl.Eh P;have h2:=qxc P;have e:=h.c.1;have f:Qe P.C.n<=18:=by unfold Qe;omega
 omega
theorem qxz {n:Nat}(h:n<=2048):(Xt n).length<=30:=by
 rw[qnw];unfold Qe;omega
theorem qrw {D:DM}{P:Pl}(h:P.ok){S0:Sp}{u:Ct}(B:Sound D P S0 u):D.Lu P=0/\D.Md P=P.done/\Sound (D.Qk P.steps) P.done P.sup P.C/\
  Eb (D.Qk P.steps).newest (D.Qk P.steps).off (D.Qk P.steps).n=0/\Pl.Va (D.Qk P.steps).newest (D.Qk P.steps).n=P.done/\Gq (D.Qk P.steps).newest=P.sup:=by
 obtain⟨y,e,_⟩:=qfd h B;have f:D.Xp P.steps=true:=decide_eq_true y;obtain⟨E,m,F⟩:=q8g e;refine⟨(qe2 f).1,(qe2 f).2,e,by rw[e.free.on];exact E,?_,m⟩;unfold Pl.Va;rw[m];have:Me (D.Qk P.steps).newest (D.Qk P.steps).n P.sup.gen=P.C.commit:=F;rw[this];rfl
def shB:List UInt8:=[97,98]
section
variable {b:Nat}{w w':World}{d p:Nat}{S0 S T S':Nat->Prop}{D:DM}{P:Pl}
theorem Qi.below (H:Qi b w d p S0 S T D P)(hb:Below w.1.size w w'):Qi b w' d p S0 S T D P:=
 ⟨H.U8.below hb,H.pool.below hb,H.sub,H.apart,λk e=>⟨(H.tight k e).1,by have:=(H.tight k e).2;have:=hb.size;omega⟩⟩
theorem Qi.more (H:Qi b w d p S0 S T D P)(hb:Below w.1.size w w'):Qi b w' d p S0 S (grow T w w') D P:=by
 have m:=H.base;have f:=H.Cj;have u:=hb.size;refine⟨H.U8.below hb,(H.pool.mono (S':=S) (T':=grow T w w') (λk _ h=>h) (λk e h=>?_) (λk h=>⟨.inl (f k h),by have:=(H.tight k (f k h)).2;omega⟩)).below hb,λk e=>⟨.inl (H.sub k e),by have:=(H.tight k (H.sub k e)).2;omega⟩,H.apart,λk e=>⟨e.1.elim (λh=>(H.tight k h).1) λh=>by omega,e.2⟩⟩;exact h.1.elim id λh=>by omega
theorem Qi.own (H:Qi b w d p S0 S T D P)(t:Turn S' w w')(hT:∀k,S' k->T k)(h0:∀k,S' k->¬S0 k)(h1:∀k,S' k->¬S k):Qi b w' d p S0 S T D P:=
 ⟨H.U8.keep λk e f=>t.block k e λh=>h0 k h f,H.pool.other t hT h1,H.sub,H.apart,λk e=>⟨(H.tight k e).1,by have:=(H.tight k e).2;have:=t.size;omega⟩⟩
theorem Qi.sys (H:Qi b w d p S0 S T D P):Sys b w d p T D P:=⟨S0,S,H⟩
theorem qqn (H:Qi b w d p S0 S T D P)(J:1<b)(E:Tab w){F:Nat}(B:D.Ya F)(y:F<=500000)(u:P.g<1099511627775) :
  Calls Tryz.prog 23 #[.pointer (some ⟨p,0,none⟩)] w λe w'=>e=.returned (.int .i64 (D.Lu P))/\Qi b w' d p (grow S0 w w') S (grow T w w') (D.Qk P.steps) (D.Md P)/\Turn (λk=>S0 k\/S k) w w'/\Tab w':=by
 have m:=H.Cj;have I:=H.base;refine (qhx H.U8 H.pool H.sub H.apart (λk f=>(H.tight k f).2) (λh=>by have:=(H.tight _ h).1;omega) E B y u).mono ?_;rintro e w' ⟨rfl,R,Q,X⟩;have K:=X.size;have G:∀k,S0 k\/S k->T k:=λk f=>f.elim (H.sub k) (m k)
 refine⟨rfl,⟨R.tight,?_,λk f=>⟨f.1.imp (H.sub k) id,f.2⟩,λk f h=>?_,λk f=>⟨f.1.elim (λh=>(H.tight k h).1) λh=>by omega,f.2⟩⟩,X,E.turned X λh=>by have:=(H.tight _ (G _ h)).1;omega⟩
 ·exact Q.mono (λk _ h=>h) (λk f h=>h.1) λk f=>⟨.inl (m k f),by have:=(H.tight k (m k f)).2;omega⟩
 ·exact f.1.elim (λh2=>H.apart k h2 h) λh2=>by have:=(H.tight k (m k h)).2;omega
end
def Gg (w:World)(base:Nat)(A:Option Addr)(n c:Nat)(an:List Nat):Prop:=Qs w base 3 1 A n c (an.map λ(a:Nat)=>[.int .i64 (a:Int)])
section
variable {w w':World}{base:Nat}{A:Option Addr}{n c:Nat}{an:List Nat}
theorem Gg.len (h:Gg w base A n c an):an.length=n:=by
 have:=Qs.len h (by omega);rw[List.length_map] at this;omega
theorem Gg.turned (h:Gg w base A n c an){S:Nat->Prop}(T:Turn S w w')(hA:∀k,q01 A=some k->¬S k):Gg w' base A n c an:=Qs.turned h T hA
theorem Gg.below (h:Gg w base A n c an)(hb:Below w.1.size w w'):Gg w' base A n c an:=Qs.below h hb
theorem Gg.lt (h:Gg w base A n c an):∀k,q01 A=some k->base<=k/\k<w.1.size:=Qs.Qa h
theorem Gg.cell (h:Gg w base A n c an){i:Nat}(hi:i<n):∃e a,A=some e/\an[i]?=some a/\w.cell? (e.add i)=some (.int .i64 (a:Int))/\e.block<w.1.size:=by
 have B:=h.len;have y:=Qs.Vs h (by omega);obtain⟨g,o,f,m,_,u⟩:=y.2.2.2 i _ (List.getElem?_eq_getElem (by rw[List.length_map];omega));have h0:=u 0 (.int .i64 ((an[i]'(by omega):Nat):Int)) (by rw[List.getElem_map];rfl);rw[Nat.mul_one,Nat.add_zero] at h0;exact⟨⟨g,o,none⟩,_,f,List.getElem?_eq_getElem (by omega),by rw[Addr.add_mid];exact h0,m⟩
theorem Gg.cap (h:Gg w base A n c an):n<=c/\c<=maxLen:=by
 have e:=Qs.Vs h (by omega);exact⟨e.cap,e.max⟩
end
section
open Go.ChangeMaps (setBlock)
theorem qee {w:World}{p d:Nat}{S T:Nat->Prop}{P:Pl}(H:Pool w p d S T P)(hT:∀k,T k->k<w.1.size)(hG:¬T 1)(N:Nd)(A:Option Addr)(n c:Nat)(B:Option Addr)(F G:Nat)(a6:∀w',Turn S w w'->Zl w' A n c N.items/\Zm w' B F G N.kids)(hn:n<=1000)(hm:F<=1000)(ht:Tab w) :
  Calls Tryz.prog 140 #[.pointer (some ⟨p,0,none⟩),.agg #[.int .i64 N.lvl,.slice A n c,.slice B F G]] w λe w'=>e=.returned (.tuple #[.int .i64 (P.Xg N),.int .i64 (P.Jq N)])/\Pool w' p d S T (P.Zn N)/\Turn S w w'/\Tab w':=by
 have b0:=H.ok;have N1:NB (w.alloc (.cells #[.int .i64 N.lvl,.slice A n c,.slice B F G] 75)) w.1.size N.lvl A n c B F G:=NB.new w _ _ _ _ _ _ _ _;have U:Below w.1.size w (w.alloc (.cells #[.int .i64 N.lvl,.slice A n c,.slice B F G] 75)):=Qm;have z1:(w.alloc (.cells #[.int .i64 N.lvl,.slice A n c,.slice B F G] 75)).1.size=w.1.size+1:=by simp
 have Z:=λr hr w' (hw:Turn S w w')=>q2l N r hr A n c B F G w' (a6 w' hw).1 (a6 w' hw).2 hn hm
 have c0:=N1.c0;have c1:=N1.c1;have c2:=N1.c2;have t1:=ht.below U ht.1;have H1:=H.below U;have B1:Turn S w (w.alloc (.cells #[.int .i64 N.lvl,.slice A n c,.slice B F G] 75)):=Qv U
 cases f:N.may with
 |false=>
  have e1:P.Xg N=0:=by unfold Pl.Xg;rw[f];rfl
  have Y:P.Jq N=1:=by unfold Pl.Jq;rw[f];rfl
  have e3:P.Zn N=P:=by unfold Pl.Zn;rw[f];rfl
  rw[e1,Y,e3];have W:=Lib.hid (Z false f);clear f e1 Y e3 Z;go_enter Tryz.func140,Tryz.ntmps140
  go_wp2_with fail
  generalize w.alloc (.cells #[.int .i64 N.lvl,.slice A n c,.slice B F G] 75)=w1 at U N1 z1 c0 c1 c2 t1 H1 B1 ⊢;refine (W.out w1 B1).mono ?_;rintro e w2 ⟨rfl,J⟩;go_wp2;go_ret2;have BB:=U.trans (J.mono (by omega));exact⟨rfl,H.below BB,Qv BB,ht.below BB ht.1⟩
 |true=>
  have a8:=q6r f;have e1:P.Xg N=P.C.Uy:=by unfold Pl.Xg;rw[f];rfl
  have Y:P.Jq N=P.C.Uf:=by unfold Pl.Jq;rw[f];rfl
  have e3:P.Zn N=P.lay (.node N):=by unfold Pl.Zn;rw[f];rfl
  have c8:=λ(a:Nat) (ha:a<=2047)=>q5k f ha q2f
  have W:=Lib.hid (Z true f);have d3:=Lib.hid c8;rw[e1,Y,e3];clear f Z c8 e1 Y e3;have H0:=H;obtain⟨m,d4,l,clock,v,Sc,L⟩:=H1;have b9:=L.Ie;have b7:=L.mlt
  cases hp:P.C.pick with
  |none=>
   obtain⟨a1,a2,a3⟩:=Ct.Vm hp;have E:=λ(w2:World) (C2:Yt w2 p 36 Sc P.C)=>qc7 C2
   rw[a1,a2,a3] at E;rw[a1,a2,qdx hp];have E:=Lib.hid E;clear a1 a2 a3 hp;go_enter Tryz.func140,Tryz.ntmps140
   go_wp2_with fail
   generalize w.alloc (.cells #[.int .i64 N.lvl,.slice A n c,.slice B F G] 75)=w1 at U N1 z1 c0 c1 c2 t1 B1 L b9 b7 ⊢;refine (W.out w1 B1).mono ?_;rintro e w2 ⟨rfl,J⟩;have u:=L.below J;go_wp2_with fail
   refine (E.out w2 u.ct).mono ?_;rintro e y ⟨rfl,C3,R⟩;go_wp2;go_ret2;have BB:=U.trans (J.mono (by omega));have X3:Turn S w y:=(Qv (S:=S) BB).trans (R.mono u.Xu.2.2) λk hk=>.inl hk
   exact⟨rfl,⟨m,d4,l,clock,v,Sc,u.Qbl R C3 rfl (λ_=>Iff.rfl) b0⟩,X3,ht.turned X3 λh=>hG (u.sub _ h)⟩
  |some a=>
   obtain⟨a1,a2,a3⟩:=Ct.Xv hp;have d6:=(Ct.Xk hp).1;have K:P.C.get (a:Int)=0:=by unfold Ct.get;rw[if_pos (by omega),Int.toNat_natCast];exact (Ct.Xk hp).2.2.1
   have O:Zf (a:Int) l=none:=by rw[L.look a];unfold Pl.live;rw[if_pos K];rfl
   have I:=Lib.hid O;have e9:=b0.c.1;have hS:=qvw (P:=P) (.node N);have b8:=qo1 (P:=P) (.node N);have a7:=qo0 b0 a8.fine;have b4:P.C.alloc=(P.lay (.node N)).C:=by rw[q37 hp]
   have b6:=qt1 hp (.node N);have b5:=qt2 a8 L.good;have E:=λ(w2:World) (C2:Yt w2 p 36 Sc P.C)=>qc7 C2
   rw[a1,a2,b4] at E;rw[a1,a2];obtain⟨c6,e6,_⟩:=d3.out a (by omega);have M:=a8.len (a:=a) (g:=0) (by omega) q2f;have c7:(Bk.node N).out a 0=Jm N (a:Int) 0:=rfl;rw[c7] at M;have d1:=Lib.hid c6;have e8:=Lib.hid M;have E:=Lib.hid E;have d0:=Lib.hid b6;have c9:=Lib.hid b5;have b3:=Lib.hid a7;have HS:=Lib.hid hS;have Hn:=Lib.hid b8;clear a1 a2 a3 hp b4 hS b8 a7 b6 b5 c6 e6 M O K c7;go_enter Tryz.func140,Tryz.ntmps140
   go_wp2_with fail
   generalize w.alloc (.cells #[.int .i64 N.lvl,.slice A n c,.slice B F G] 75)=w1 at U N1 z1 c0 c1 c2 t1 B1 L b9 b7 ⊢;refine (W.out w1 B1).mono ?_;rintro e w2 ⟨rfl,J⟩;have u:=L.below J;go_wp2_with fail
   refine (E.out w2 u.ct).mono ?_;rintro e y ⟨rfl,C3,R⟩;have z2:=J.size;have z3:=R.size;have N2:=N1.below J (by omega);have e5:=R.block p u.Ie λh=>(u.ne p h).1 rfl
   have e4:=R.block m u.mlt λh=>(u.ne m h).2 rfl
   have B3:Turn S w y:=(Qv (S:=S) (U.trans (J.mono (by omega)))).trans (R.mono u.Xu.2.2) λk hk=>.inl hk
   have d9:¬Sc w.1.size:=λh=>by have:=hT _ (u.sub _ (u.Xu.2.2 _ h));omega
   have n3:=R.block w.1.size N2.lt d9;have N3:NB y w.1.size N.lvl A n c B F G:=by
    obtain⟨t,h⟩:=N2;exact⟨t,n3.trans h⟩
   have e7:y.cell? ⟨p,40,none⟩=some (.map (some m)):=(World.cell?_of_block (a:=⟨p,40,none⟩) e5).trans u.c40;have t3:Tab y:=(t1.below J t1.1).turned R λh=>hG (u.sub _ (u.Xu.2.2 _ h))
   have d8:w.1.size≠m:=λe=>by have h1:=hT m (u.sub _ u.Xu.2.1);omega
   have hF:∀w',Below y.1.size y w'->w'.cell? ⟨p,40,none⟩=some (.map (some m))/\w'.cell? ⟨w.1.size,0,none⟩=some (.int .i64 N.lvl)/\w'.cell? ⟨w.1.size,1,none⟩=some (.slice A n c)/\w'.cell? ⟨w.1.size,2,none⟩=some (.slice B F G):=λw' hb=>
    have N':=N3.below hb N3.lt;⟨(hb.cell (p:=⟨p,40,none⟩) (by show p<_;omega)).trans e7,N'.c0,N'.c1,N'.c2⟩
   have d5:∀w' (o:Obj),Below y.1.size y w'->(setBlock w' m o).cell? ⟨p,40,none⟩=some (.map (some m))/\(setBlock w' m o).cell? ⟨w.1.size,0,none⟩=some (.int .i64 N.lvl)/\(setBlock w' m o).cell? ⟨w.1.size,1,none⟩=some (.slice A n c)/\(setBlock w' m o).cell? ⟨w.1.size,2,none⟩=some (.slice B F G):=λw' o hb=>by
    have hz:=hb.size;have TB:Turn (λk=>k=m) w' (setBlock w' m o):=q0p _ rfl;obtain⟨h1,h2,h3,h4⟩:=hF w' hb;have e1:=TB.block p (by omega) u.p_m;have Y:=TB.block w.1.size (by omega) d8;exact⟨(World.cell?_of_block (a:=⟨p,40,none⟩) e1).trans h1,(World.cell?_of_block (a:=⟨w.1.size,0,none⟩) Y).trans h2,(World.cell?_of_block (a:=⟨w.1.size,1,none⟩) Y).trans h3,(World.cell?_of_block (a:=⟨w.1.size,2,none⟩) Y).trans h4⟩
   have BD:Below y.1.size y y.drew:=(Below.refl _ _).drew;have d2:=Lib.hid (λ(w':World) (hb:Below y.1.size y w') (v':Value)=>(congrArg (λz:Nat=>Result.ok () (setBlock w' m (.map (Jy (a:Int) v' clock l).toArray z))) (if_pos I.out)).subst (motive:=λr=>(Instr.mapUpdate 101 (.map (some m)) (.int .i64 (a:Int)) v').run Tryz.prog w'=r) (q2u L.ents Tryz.underlying101 Tryz.underlying3 ((hb.block m (by omega)).trans (e4.trans u.map)) (a:Int) v'));have BI:Turn S w y.drew:=B3.drew;go_wp2_with fail
   go_region_held3 (λw'=>w'.cell? ⟨p,40,none⟩=some (.map (some m))/\w'.cell? ⟨w.1.size,0,none⟩=some (.int .i64 N.lvl)/\w'.cell? ⟨w.1.size,1,none⟩=some (.slice A n c)/\w'.cell? ⟨w.1.size,2,none⟩=some (.slice B F G))
    (first|assumption|exact hF _ BD|exact hF _ X|exact d5 _ _ X)
    (first
     |(go_at_call 168;refine (qcc N (a:Int) 0 A n c B F G _ (a6 _ BI).1 (a6 _ BI).2 hn hm (t3.below BD t3.1)).mono ?_;rw[d1.out];rintro e w4 ⟨A3,n3,c3,rfl,Q,e0,d7⟩;have X:Below y.1.size y w4:=BD.trans d7;have f0:=d2.out w4 X)
     |fail)
   obtain⟨q,rfl,rfl,rfl⟩:=e0 (by first|trivial|rfl);have hq:=(Q.block ⟨q,0,none⟩ rfl).1;obtain⟨R1,R2⟩:=u.store (P':=P.lay (.node N)) (b:=.node N) R C3 X Hn.out HS.out d6 d0.out c9.out b3.out Q.sl (λh=>by have h1:=hT q h;have h2:y.drew.1.size=y.1.size:=rfl;have h3:y.drew.1.size<=q:=hq;omega);rw[if_pos I.out] at R1 R2;go_wp2;go_ret2;have BB:=U.trans (J.mono (by omega));have X3:=(Qv (S:=S) BB).trans R2 λk hk=>.inl hk
   exact⟨rfl,R1,X3,ht.turned X3 λh=>hG (u.sub _ h)⟩
section
variable {b:Nat}{w:World}{d p:Nat}{S0 S T:Nat->Prop}{D:DM}{P:Pl}
theorem qcl (H:Qi b w d p S0 S T D P)(F:1<b)(E:Tab w)(N:Nd)(A:Option Addr)(n c:Nat)(B:Option Addr)(m k:Nat)(u:∀w',Turn S w w'->Zl w' A n c N.items/\Zm w' B m k N.kids)(hn:n<=1000)(hm:m<=1000) :
  Calls Tryz.prog 140 #[.pointer (some ⟨p,0,none⟩),.agg #[.int .i64 N.lvl,.slice A n c,.slice B m k]] w λe w'=>e=.returned (.tuple #[.int .i64 (P.Xg N),.int .i64 (P.Jq N)])/\Qi b w' d p S0 S T D (P.Zn N)/\Turn S w w'/\Tab w':=by
 refine (qee H.pool (λk f=>(H.tight k f).2) (λh=>by have:=(H.tight _ h).1;omega) N A n c B m k u hn hm E).mono ?_;rintro e w' ⟨rfl,R,X,t⟩;have G:=X.size;exact⟨rfl,⟨H.U8.keep λk f y=>X.block k f (H.apart k y),R,H.sub,H.apart,λk f=>⟨(H.tight k f).1,by have:=(H.tight k f).2;omega⟩⟩,X,t⟩
end
end
section
theorem Qc4 {e:Array Value}(h:∀(i:Nat) (v:Value),e[i]?=some v->v.oneCell'=true):e.all (·.oneCell')=true:=by
 rw[Array.all_eq_true];intro i f;exact h i _ (Array.getElem?_eq_getElem f)
theorem Qdc {w:World}{p d m clock:Nat}{f:Array Value}{l:List MapEntry}{v:Nat->Value}{F S T:Nat->Prop}{P:Pl}(L:PL w p d m f l clock v F S T P):f.all (·.oneCell')=true:=by
 refine Qc4 λi x e=>?_
 obtain⟨a,J,b,K,t,u,h1,⟨I,y,B,E⟩,_⟩:=L.ct;rw[L.me] at h1;injection h1 with h1;injection h1 with h1;subst h1;have M:i<41:=by have:=(Array.getElem?_eq_some_iff.1 e).1;have:=L.ph.size;omega
 by_cases h0:i=0
 ·subst h0;rw[L.ph.disk] at e;injection e with e;subst e;rfl
 ·by_cases G:i<36
  ·have H:P.S.vs[i-1]?=some (P.S.vs[i-1]'(by rw[P.S.Zj];omega)):=List.getElem?_eq_getElem _;have:=L.ph.sup (i-1) _ H;rw[show 1+(i-1)=i by omega,e] at this;injection this with this;rw[this];exact P.S.one _ (List.getElem_mem _)
  ·have:i=36\/i=37\/i=38\/i=39\/i=40:=by omega
   rcases this with rfl|rfl|rfl|rfl|rfl
   ·rw[I] at e;injection e with e;subst e;rfl
   ·rw[show 36+1=37 from rfl] at y;rw[y] at e;injection e with e;subst e;rfl
   ·rw[show 36+2=38 from rfl] at B;rw[B] at e;injection e with e;subst e;rfl
   ·rw[show 36+3=39 from rfl] at E;rw[E] at e;injection e with e;subst e;rfl
   ·rw[L.ph.fresh] at e;injection e with e;subst e;rfl
theorem J5 (b:Nat):∀(vs:List Value) (o:Nat) (w:World),(w.setCells b o vs).1.size=w.1.size
 |[],_,_=>rfl
 |v::r,o,w=>(J5 b r (o+1) (w.setCell ⟨b,o,none⟩ v)).trans (World.size_setCell ..)
theorem Qc8 {α:Type}{L vs:List α}{o i:Nat}(hi:i<o)(e:o<=L.length):(splice L o vs)[i]?=L[i]?:=by
 unfold splice;rw[List.getElem?_append_left (by simp;omega),List.getElem?_take_of_lt hi]
theorem Qc7 {α:Type}{L vs:List α}{o j:Nat}(e:j<vs.length)(m:o<=L.length):(splice L o vs)[o+j]?=vs[j]?:=by
 unfold splice;have f:(L.take o).length=o:=by simp;omega
 rw[List.getElem?_append_right (by omega),f,Nat.add_sub_cancel_left,List.getElem?_append_left e]
theorem Qc6 {α:Type}{L vs:List α}{o j:Nat}(f:o<=L.length):(splice L o vs)[o+(vs.length+j)]?=L[o+(vs.length+j)]?:=by
 unfold splice;have e:(L.take o).length=o:=by simp;omega
 rw[List.getElem?_append_right (by omega),e,Nat.add_sub_cancel_left,List.getElem?_append_right (by omega),Nat.add_sub_cancel_left,List.getElem?_drop,Nat.add_assoc]
def ldP (p:Value):Sem Value:=Instr.loadAt 103 p
theorem Qda (p:Value):Instr.loadAt 103 p=ldP p:=rfl
def alP (h:Bool)(old:Value):Sem Value:=Instr.alloc 103 h old
theorem Qc9 (h:Bool)(old:Value):Instr.alloc 103 h old=alP h old:=rfl
def J3:List Value:=.pointer none::(Sp.zero.vs++[.slice none 0 0,.slice none 0 0,.int .i64 0,.int .i64 0,.map none])
theorem I5:J3.length=41:=by decide
theorem Qde (h:Bool)(w:World):(alP h (.tuple #[])).run Tryz.prog w=.ok (.pointer (some ⟨w.1.size,0,none⟩)) (w.alloc (.cells J3.toArray 103)):=by
 cases h
 ·show (Instr.alloc 103 false (.tuple #[])).run Tryz.prog w=_;kernel_rfl
 ·show (Instr.alloc 103 true (.tuple #[])).run Tryz.prog w=_;kernel_rfl
theorem PL.ldp {w:World}{p d m clock:Nat}{cur:Array Value}{l:List MapEntry}{v:Nat->Value}{Sc S T:Nat->Prop}{P:Pl}(L:PL w p d m cur l clock v Sc S T P):(ldP (.pointer (some ⟨p,0,none⟩))).run Tryz.prog w=.ok (.agg cur) w:=by
 have e:w.rangeAt p 0 cur.toList:=λj x f=>by
  rw[Nat.zero_add];exact Rj L.me (by simpa using f)
 show (Instr.loadAt 103 (.pointer (some ⟨p,0,none⟩))).run Tryz.prog w=_;have:=run_loadAt_mid (P:=Tryz.prog) w p 0 103 cur.toList _ e Tryz.underlying103 rfl (by rw[Array.length_toList,L.ph.size];kernel_rfl);simpa using this
attribute [local go_sem ↓] Qda Qc9 qt0
theorem Qc3 {b:Nat}{w:World}{d p:Nat}{S0 S T:Nat->Prop}{D:DM}{P:Pl}(H:Qi b w d p S0 S T D P) :
  Calls Tryz.prog 27 #[.pointer (some ⟨p,0,none⟩)] w λe w'=>∃q,e=.returned (.pointer (some ⟨q,0,none⟩))/\Below w.1.size w w'/\Qi b w' d p S0 S (grow T w w') D P/\Qi b w' d q S0 (λk=>w.1.size<=k/\k<w'.1.size) (grow T w w') D P:=by
 have K:=H;obtain⟨m,f,l,clock,v,Sc,L⟩:=H.pool;have d1:=L.ldp;have b7:=Qdc L;have d0:=Qde;have d8:=L.Ie;have d6:=L.mlt;have c40:=L.c40;have a2:=L.ph.size;have bz:Below w.1.size w (w.alloc (.cells J3.toArray 103)):=Qm;have U:(w.alloc (.cells J3.toArray 103)).1[w.1.size]?=some (.cells J3.toArray 103 (0,0)):=heap_alloc_new w _;have b4:=(L.below bz).ldp;go_enter Tryz.func27,Tryz.ntmps27
 have b8:(w.alloc (.cells J3.toArray 103)).there w.1.size 0 f.size:=λj hj=>by
  refine⟨?_,by unfold World.frozen?;rw[U];simp⟩;rw[cell_of_row _ _ _ _ _ _ U,Array.getElem?_eq_getElem (by rw[List.size_toArray,I5];omega)];rfl
 have h2:=q0o w.1.size 103 f.toList 0 _ J3 U (by rw[Array.length_toList,I5];omega);rw[q4g J3 f.toList (by rw[I5,Array.length_toList,a2])] at h2;have T2:=Us (S:=λk=>k=w.1.size) rfl f.toList 0 (w.alloc (.cells J3.toArray 103));have b2:Below w.1.size w ((w.alloc (.cells J3.toArray 103)).setCells w.1.size 0 f.toList):=bz.trans (T2.below (λk G=>by omega) (by simp));have zz:((w.alloc (.cells J3.toArray 103)).setCells w.1.size 0 f.toList).1.size=w.1.size+1:=by
  rw[J5];simp
 go_wp2_with (first
  |(refine wpList_store_mid rfl 103 _ _ rfl w.1.size 0 f rfl rfl b8 (by rw[a2];kernel_rfl) b7 ?_)
  |fail)
 generalize (w.alloc (.cells J3.toArray 103)).setCells w.1.size 0 f.toList=w2 at h2 b2 zz ⊢;obtain⟨q,hq⟩:∃k,w.1.size=k:=⟨_,rfl⟩;have Hq:=Lib.hid hq;rw[hq] at h2 zz;simp only[hq];have L2:=L.below b2;have c9:=L2.ct;clear d1 b4 d0 b8 U bz T2;refine (Qc2 c9).mono ?_;rintro e I ⟨pc,rfl,C3,d7,b3⟩;have L3:=L2.below b3;have h3:=(b3.block q (by omega)).trans h2;have a6:=L3.c40;have hC:=C3;obtain⟨a0,c6,a1,c7,ty,cu,k1,⟨k2,k3,k4,k5⟩,k6,k7,k8,k9,d9⟩:=C3;obtain⟨u,M⟩:∃x:Value,Value.slice (some ⟨a0,0,none⟩) P.C.n c6=x:=⟨_,rfl⟩;obtain⟨y,O⟩:∃x:Value,Value.slice (some ⟨a1,0,none⟩) P.C.n c7=x:=⟨_,rfl⟩;obtain⟨B,Q⟩:∃x:Value,Value.int .i64 (Qe P.C.n:Int)=x:=⟨_,rfl⟩;obtain⟨E,R⟩:∃x:Value,Value.int .i64 (P.C.first:Int)=x:=⟨_,rfl⟩;have o4:(#[u,y,B,E]:Array Value).all (·.oneCell')=true:=by
  refine Qc4 λi v F=>?_
  match i,F with
  |0,F=>injection F with F;rw[<-F,<-M];rfl
  |1,F=>injection F with F;rw[<-F,<-O];rfl
  |2,F=>injection F with F;rw[<-F,<-Q];rfl
  |3,F=>injection F with F;rw[<-F,<-R];rfl
  |i+4,F=>simp at F
 have d4:(ldC (.pointer (some ⟨pc,0,none⟩))).run Tryz.prog I=.ok (.agg #[u,y,B,E]) I:=by
  have r:I.rangeAt pc 0 [u,y,B,E]:=λj v F=>by
   rw[Nat.zero_add];refine Rj k1 ?_;rw[M] at k2;rw[O] at k3;rw[Q] at k4;rw[R] at k5;match j with
   |0=>rw[k2];exact F
   |1=>exact k3.trans F
   |2=>exact k4.trans F
   |3=>exact k5.trans F
   |j+4=>simp at F
  exact run_loadAt_mid I pc 0 100 _ _ r Tryz.underlying100 rfl (by kernel_rfl)
 have b9:I.there q 36 4:=λj hj=>by
  refine⟨?_,by unfold World.frozen?;rw[h3];simp⟩;rw[cell_of_row _ _ _ _ _ _ h3,Array.getElem?_eq_getElem (by simp;omega)];rfl
 have b0:f.toList.length=41:=by rw[Array.length_toList,a2]
 have h4:=q0o q 103 [u,y,B,E] 36 I f.toList h3 (by rw[b0];show 36+4<=41;omega);have T4:=Us (S:=λk=>k=q) rfl [u,y,B,E] 36 I;have d3:p≠q:=by omega
 have d2:m≠q:=by omega
 have z3:=b3.size;have z4:(I.setCells q 36 [u,y,B,E]).1.size=I.1.size:=J5 ..;have a7:(I.setCells q 36 [u,y,B,E]).cell? ⟨p,40,none⟩=some (.map (some m)):=by
  rw[World.cell?_of_block (a:=⟨p,40,none⟩) (T4.block p (by have:=L3.Ie;omega) (λh=>d3 h))];exact a6
 have m4:(I.setCells q 36 [u,y,B,E]).1[m]?=some (.map l.toArray clock):=(T4.block m L3.mlt (λh=>d2 h)).trans L3.map;go_wp2_with (first
  |(refine wpList_store_mid rfl 100 _ _ rfl q 36 #[u,y,B,E] rfl rfl b9 (by kernel_rfl) o4 ?_)
  |fail)
 have BD:=b3;generalize I.setCells q 36 [u,y,B,E]=J at h4 T4 z4 a7 m4 ⊢;refine (Qc1 m4).mono ?_;rintro e w5 ⟨rfl,rfl⟩;have b5:Below J.1.size J (J.alloc (.map l.toArray clock)):=Qm;have m5:(J.alloc (.map l.toArray clock)).1[J.1.size]?=some (.map l.toArray clock):=heap_alloc_new J _;have h5:=(b5.block q (by omega)).trans h4;have z5:(J.alloc (.map l.toArray clock)).1.size=J.1.size+1:=by simp
 have c5:(splice f.toList 36 [u,y,B,E])[40]?=some (.map (some m)):=by
  have h:=Qc6 (L:=f.toList) (vs:=[u,y,B,E]) (o:=36) (j:=0) (by omega);have c8:36+([u,y,B,E].length+0)=40:=rfl;rw[c8] at h;rw[h,Array.getElem?_toList];exact L.ph.fresh
 have d5:(J.alloc (.map l.toArray clock)).cell? ⟨q,40,none⟩=some (.map (some m)):=by
  rw[cell_of_row _ _ _ _ _ _ h5,List.getElem?_toArray];exact c5
 have f5:(J.alloc (.map l.toArray clock)).frozen? ⟨q,40,none⟩=false:=by unfold World.frozen?;rw[h5];simp
 generalize J.alloc (.map l.toArray clock)=w5 at b5 m5 h5 z5 d5 f5 ⊢;go_wp2_with fail
 have hq:=Hq.out;obtain⟨Y,b6⟩:∃k,I.1.size=k:=⟨_,rfl⟩;rw[z4,b6] at m5;simp only[b6];have h6:=heap_setCell_same w5 q 40 _ _ (.map (some Y)) h5;have X6:Turn (λk=>k=q) w5 (w5.setCell ⟨q,40,none⟩ (.map (some Y))):=qbg _ _ _;have z6:(w5.setCell ⟨q,40,none⟩ (.map (some Y))).1.size=w5.1.size:=World.size_setCell ..;generalize w5.setCell ⟨q,40,none⟩ (.map (some Y))=w6 at h6 X6 z6 ⊢;have B4:Below w.1.size w J:=(b2.trans (b3.mono (by omega))).trans (T4.below (λk G=>by omega) (by omega));have B6:Below w.1.size w w6:=(B4.trans (b5.mono (by omega))).trans (X6.below (λk G=>by omega) (by omega));have m6:w6.1[Y]?=some (.map l.toArray clock):=(X6.block Y (by omega) (by omega)).trans m5;have a8:=K.Cj;have Z:=(L.mono (S':=S) (T':=grow T w w6) (λk _ h=>h) (λk G h=>h.1.elim id λh2=>by omega) (λk h=>⟨.inl (a8 k h),by have:=(K.tight k (a8 k h)).2;omega⟩)).below B6;have W:∀i,i<36->((splice f.toList 36 [u,y,B,E]).toArray.setIfInBounds 40 (.map (some Y)))[i]?=f[i]?:=λi hi=>by
  rw[Array.getElem?_setIfInBounds_ne (by omega),List.getElem?_toArray,Qc8 hi (by omega),Array.getElem?_toList]
 have X:(splice f.toList 36 [u,y,B,E]).length=41:=by
  unfold splice;simp only[List.length_append,List.length_take,List.length_drop,List.length_cons,List.length_nil,b0];omega
 have C6:Yt w6 q 36 (λk=>w2.1.size<=k/\k<I.1.size) P.C:=by
  refine Yt.around (p:=pc) (o:=0) hC.shrink k1 h6 (λj hj=>?_) (λk G=>by omega) λk G hs=>?_
  ·rw[Array.getElem?_setIfInBounds_ne (by omega),List.getElem?_toArray,Qc7 (by simpa using hj) (by omega)];rw[M] at k2;rw[O] at k3;rw[Q] at k4;rw[R] at k5;match j,hj with
   |0,_=>exact k2.symm
   |1,_=>exact k3.symm
   |2,_=>exact k4.symm
   |3,_=>exact k5.symm
  ·have b1:k≠q:=by omega
   exact (X6.block k (by omega) b1).trans ((b5.block k (by omega)).trans (T4.block k G b1))
 go_ret;refine⟨q,rfl,B6,K.more B6,K.U8.below B6,⟨Y,_,l,clock,v,_,⟨h6,⟨?_,?_,λj x hx=>?_,?_⟩,C6,m6,Z.ents,Z.look,Z.keys,Z.row,Z.good,⟨⟨by omega,by omega⟩,⟨by omega,by omega⟩,λk G=>⟨by omega,by omega⟩⟩,λk G=>⟨by omega,by omega⟩,λk G=>⟨.inr G.1,G.2⟩,Z.ok,Z.D8⟩⟩,λk G=>⟨.inl (K.sub k G),by have:=(K.tight k (K.sub k G)).2;omega⟩,λk G h=>by have:=(K.tight k (K.sub k G)).2;omega,λk G=>⟨G.1.elim (λh=>(K.tight k h).1) λh=>by have:=K.base;omega,G.2⟩⟩
 ·rw[Array.size_setIfInBounds,List.size_toArray,X]
 ·rw[W 0 (by omega)];exact L.ph.disk
 ·have hj:j<35:=by have:=(List.getElem?_eq_some_iff.1 hx).1;rw[P.S.Zj] at this;exact this
  rw[W (1+j) (by omega)];exact L.ph.sup j x hx
 ·rw[Array.getElem?_setIfInBounds_self_of_lt (by rw[List.size_toArray,X];omega)]
end
