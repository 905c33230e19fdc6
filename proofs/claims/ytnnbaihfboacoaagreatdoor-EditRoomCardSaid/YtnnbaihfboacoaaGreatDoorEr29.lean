/- What a store of nodes tells behind a commit, and when a byte is turned -/
import Derived.Test.YtnnbaihfboacoaaGreatDoorEr28
namespace Go.Proofs.YtnnbaihfboacoaaGreatDoor
open Go Go.RowKit Go.Proofs
set_option maxHeartbeats 8000000
set_option maxRecDepth 100000
theorem qp7 {P:Pl}{n:Nat}(h0:P.C.get (n:Int)≠0)(h:P.live n=none):P.L n=none:=by
 unfold Pl.live at h;rwa [if_neg h0] at h
theorem q7s {P:Pl}{D:DM}{n:Nat}(h0:P.C.get (n:Int)≠0)(d:P.live n=none)(b:D.Ym (n:Int)=0):P.store D (n:Int)=(X0 (D.Yu (n:Int)) (n:Int),Xz (D.Yu (n:Int)) (n:Int) 5):=by
 unfold Pl.store Pl.Qh Pl.Zh;rw[if_neg h0,if_neg h0,Int.toNat_natCast,d];dsimp only;rw[if_pos b,if_pos b]
theorem qcf {P:Pl}{D:DM}{n:Nat}(h0:P.C.get (n:Int)≠0){b:Bk}(e:P.live n=some b)(d:(P.store D (n:Int)).2=0):∃N,b=.node N/\P.store D (n:Int)=(N,0):=by
 cases b with
 |node N=>
  refine⟨N,rfl,?_⟩;unfold Pl.store Pl.Qh Pl.Zh;rw[if_neg h0,if_neg h0,Int.toNat_natCast,e]
 |bytes k l=>
  have d:P.Zh D (n:Int)=0:=d;unfold Pl.Zh at d;rw[if_neg h0,Int.toNat_natCast,e] at d;have d:(1:Int)=0:=d;omega
theorem q8j {D:DM}{P:Pl}(h:P.ok){M:Sp}{K:Ct}(m:Sound D P M K)(y:∀a b,P.L a=some b->b.good)(a:Int)(G:(P.store D a).2=0):P.done.store (D.Qk P.steps) a=P.store D a:=by
 obtain⟨n,rfl,hn,h0⟩:=q4q G;obtain⟨_,F,_,s4,s5⟩:=qfd h m;have R:=h.c.1.2;have A:n<=2047:=by omega
 have O:(D.Qk P.steps).n=P.C.n:=F.n;have u:P.done.C.get (n:Int)≠0:=h0;have B:P.done.live n=none:=by
  unfold Pl.live;split<;>rfl
 have J:∀(D:DM),D.free->n<D.n->D.Ym (n:Int)=0/\D.Yu (n:Int)=D.newest n:=λD T hl=>by
  have d:(0:Int)<=(n:Int)/\(n:Int)<(D.n:Int):=by omega
  unfold DM.Ym DM.Yu;rw[T.on,if_neg Bool.false_ne_true,if_neg Bool.false_ne_true,if_pos d,if_pos d,Int.toNat_natCast];exact⟨rfl,rfl⟩
 obtain⟨Z,r2⟩:=J _ F.free (by omega);obtain⟨r3,r4⟩:=J D m.free (by have:=m.n;omega);have X:(D.Qk P.steps).newest n=(D.Qk P.steps).Jp n:=by unfold DM.newest;rw[F.Vr];rfl
 have E:D.newest n=D.Jp n:=by unfold DM.newest;rw[m.Vr];rfl
 rw[q7s u B Z,r2,X]
 cases p:P.live n with
 |some b=>
  obtain⟨N,rfl,e⟩:=qcf h0 p G;have f:=(q93 p).2;have hm:=q45 (y n _ f);rw[e,s4 n _ hn f h0];have I:=h.Kv;have Q:Qz ((Bk.node N).out n P.g) (n:Int)=some N:=by
   show Qz (Jm N (n:Int) P.g) (n:Int)=some N;rw[q7n hm (q5k hm A ⟨by have:=I.1;omega,by have:=I.2;omega⟩).1,if_pos rfl]
  unfold X0 Xz;rw[Q];rfl
 |none=>
  have f:=qp7 h0 p;rw[q7s h0 p r3,r4,E];rw[s5 n ?_ ?_]
  ·have W:=h.res n hn;refine Classical.byContradiction λU=>h0 ?_
   unfold Ct.get;rw[if_pos ⟨by omega,by omega⟩,Int.toNat_natCast];exact W (by omega)
  ·intro x Y;obtain⟨_,b,H,_⟩:=q7l.1 Y;rw[f] at H
   cases H
section
open Go.ChangeMaps (setBlock)
def isNode:Option Bk->Bool
 |some (.node _)=>true
 |_=>false
def Pl.Ee (P:Pl)(a:Int)(N:Nd):Bool:=N.may&&(P.C.fresh a&&isNode (P.L a.toNat))
def Pl.Gw (P:Pl)(a:Int)(N:Nd):Int:=if P.Ee a N=true then 0 else 1
def Pl.Vq (P:Pl)(a:Int)(N:Nd):Pl:=if P.Ee a N=true then ⟨P.S,P.C,upd P.L a.toNat (some (.node N))⟩ else P
theorem q31 {C:Ct}{a:Int}(h:C.fresh a=true):C.get a≠0:=λh0=>by
 unfold Ct.fresh at h;rw[if_pos h0] at h
 cases h
def bkE:Bk->Int
 |.node _=>0
 |.bytes _ _=>1
theorem qju {P:Pl}(D:DM){k:Nat}(h0:P.C.get (k:Int)≠0){b:Bk}(h:P.live k=some b):P.Zh D (k:Int)=bkE b:=by
 unfold Pl.Zh;rw[if_neg h0,Int.toNat_natCast,h]
 cases b<;>rfl
theorem qma {w0 w:World}{p d:Nat}{S0 S T:Nat->Prop}{D:DM}{P:Pl}(L0:Y9 w d S0 D)(H:Pool w p d S T P)(e3:∀a b,P.L a=some b->b.kindOk)(d9:∀a:Nat,P.C.fresh (a:Int)=true->∃b,P.L a=some b)(hT:∀k,T k->k<w.1.size)(B0:Below w0.1.size w0 w)(a:Int)(N:Nd)(A:Option Addr)(n c:Nat)(B:Option Addr)(G I:Nat)(hI:Zl w0 A n c N.items)(hK:Zm w0 B G I N.kids)(hn:n<=1000)(hm:G<=1000)(ht:Tab w) :
  Calls Tryz.prog 145 #[.pointer (some ⟨p,0,none⟩),.int .i64 a,.agg #[.int .i64 N.lvl,.slice A n c,.slice B G I]] w λe u=>e=.returned (.int .i64 (P.Gw a N))/\Pool u p d S T (P.Vq a N)/\Turn S w u:=by
 have R:=H.ok;have N1:NB (w.alloc (.cells #[.int .i64 N.lvl,.slice A n c,.slice B G I] 75)) w.1.size N.lvl A n c B G I:=NB.new w _ _ _ _ _ _ _ _;have X:Below w.1.size w (w.alloc (.cells #[.int .i64 N.lvl,.slice A n c,.slice B G I] 75)):=Qm;have z1:(w.alloc (.cells #[.int .i64 N.lvl,.slice A n c,.slice B G I] 75)).1.size=w.1.size+1:=by simp
 obtain⟨r,hr⟩:∃r,N.may=r:=⟨_,rfl⟩;obtain⟨f,hf⟩:∃f,P.C.fresh a=f:=⟨_,rfl⟩;have a2:=Lib.hid (λw (hw:Below w0.1.size w0 w)=>q2l N r hr A n c B G I w (hI.below hw) (hK.below hw) hn hm);have b3:=Lib.hid (λ(w1:World) (H1:Pool w1 p d S T P)=>q7q H1 a f hf);have c0:=N1.c0;have c1:=N1.c1;have c2:=N1.c2;have t1:=ht.below X ht.1;have H1:=H.below X;have B1:=B0.trans (X.mono B0.size);have hE:P.Gw a N=if (r&&(f&&isNode (P.L a.toNat)))=true then 0 else 1:=by unfold Pl.Gw Pl.Ee;rw[hr,hf]
 have hP:P.Vq a N=if (r&&(f&&isNode (P.L a.toNat)))=true then ⟨P.S,P.C,upd P.L a.toNat (some (.node N))⟩ else P:=by unfold Pl.Vq Pl.Ee;rw[hr,hf]
 rw[hE,hP];clear hE hP
 cases r with
 |false=>
  clear hf hr;go_enter Tryz.func145,Tryz.ntmps145
  go_wp2_with fail
  generalize w.alloc (.cells #[.int .i64 N.lvl,.slice A n c,.slice B G I] 75)=w1 at X N1 z1 c0 c1 c2 t1 H1 B1 ⊢;refine (a2.out w1 B1).mono ?_;rintro e w2 ⟨rfl,b2⟩;have J:=X.trans (b2.mono (by omega));go_wp2;go_ret;exact⟨rfl,H.below J,Qv J⟩
 |true=>
  cases f with
  |false=>
   clear hf hr;go_enter Tryz.func145,Tryz.ntmps145
   go_wp2_with fail
   generalize w.alloc (.cells #[.int .i64 N.lvl,.slice A n c,.slice B G I] 75)=w1 at X N1 z1 c0 c1 c2 t1 H1 B1 ⊢;refine (a2.out w1 B1).mono ?_;rintro e w2 ⟨rfl,b2⟩;have J:=X.trans (b2.mono (by omega));have H2:=H.below J;go_wp2_with fail
   refine (b3.out w2 H2).mono ?_;rintro e E ⟨rfl,rfl⟩;go_wp2;go_ret;exact⟨rfl,H2,Qv J⟩
  |true=>
   have Q:=q31 hf;obtain⟨k,rfl,hk⟩:=Ae Q;rw[Int.toNat_natCast];have c7:k<=2047:=by have:=R.c.1;omega
   obtain⟨b,O⟩:=d9 k hf;have a7:P.live k=some b:=by unfold Pl.live;rw[if_neg Q];exact O
   have b8:=qju D Q a7;have U:=λ(w2:World) (bb:Below w.1.size w w2)=>qp2 (L0.below bb) (H.below bb) e3 (ht.below bb ht.1) (k:Int)
   rw[b8] at U;obtain⟨M0,b7⟩:∃M0,P.Qh D (k:Int)=M0:=⟨_,rfl⟩;rw[b7] at U
   cases b with
   |bytes kk l=>
    rw[O];have b6:=Lib.hid U;clear hf hr U b8 b7 a7 O Q;show Calls _ _ _ _ λe u=>e=.returned (.int .i64 1)/\Pool u p d S T P/\Turn S w u
    go_enter Tryz.func145,Tryz.ntmps145
    go_wp2_with fail
    generalize w.alloc (.cells #[.int .i64 N.lvl,.slice A n c,.slice B G I] 75)=w1 at X N1 z1 c0 c1 c2 t1 H1 B1 ⊢;refine (a2.out w1 B1).mono ?_;rintro e w2 ⟨rfl,b2⟩;have J:=X.trans (b2.mono (by omega));have H2:=H.below J;go_wp2_with fail
    refine (b3.out w2 H2).mono ?_;rintro e E ⟨rfl,rfl⟩;go_wp2_with fail
    refine (b6.out w2 J).mono ?_;rintro e F ⟨A1,n1,q1,b0,m1,d1,rfl,_,_,_,_,b4⟩;have b5:Below F.1.size F (F.alloc (.cells #[.int .i64 0,.slice none 0 0,.slice none 0 0] 75)):=Qm;have R5:NB (F.alloc (.cells #[.int .i64 0,.slice none 0 0,.slice none 0 0] 75)) F.1.size 0 none 0 0 none 0 0:=NB.new F _ _ _ _ _ _ _ _;go_wp2_with (first
     |(refine Gt rfl _ _ rfl F.1.size rfl M0.lvl A1 n1 q1 b0 m1 d1 rfl R5 ?_;intro w6 R6 T6)
     |fail)
    go_ret;have B4:=J.trans (b4.mono J.size);have B6:Below w.1.size w w6:=(B4.trans (b5.mono B4.size)).trans (T6.below (λk hk=>by have:=B4.size;omega) (by have h1:=B4.size;have h2:=b5.size;omega));exact⟨rfl,H.below B6,Qv B6⟩
   |node M=>
    rw[O];have b6:=Lib.hid U;obtain⟨c8,e5,_⟩:=q5k hr c7 q2f;have c6:=q6r hr;have Y:=c6.len (a:=k) (g:=0) c7 q2f;have c9:(Bk.node N).out k 0=Jm N (k:Int) 0:=rfl;rw[c9] at Y;have d3:=Lib.hid c8;have e7:=Lib.hid Y;have K:∀c:Nat,Pl.live ⟨P.S,P.C,upd P.L k (some (.node N))⟩ c=if c=k then some (.node N) else P.live c:=λc=>by
     unfold Pl.live;by_cases e:c=k
     ·subst e;rw[if_pos rfl,if_neg Q];exact Aw _ _ _
     ·rw[if_neg e];show (if _ then _ else upd P.L k _ c)=_;rw[Ar _ _ e]
    have y:∀c x,(upd P.L k (some (.node N))) c=some x->x.good:=λc x h=>by
     by_cases e:c=k
     ·subst e;rw[Aw] at h;injection h with h;rw[<-h];exact c6
     ·rw[Ar _ _ e] at h;obtain⟨m,d5,l,clock,v,Sc,L⟩:=H;exact L.good c x h
    have a8:Pl.ok ⟨P.S,P.C,upd P.L k (some (.node N))⟩:=⟨R.c,R.res,R.may,R.sec,R.gen,λc x h=>(y c x h).fine⟩;have d2:=Lib.hid K;have d0:=Lib.hid y;have b9:=Lib.hid a8;obtain⟨m,d5,l,clock,v,Sc,L⟩:=H;have Z:¬Zf (k:Int) l=none:=by rw[L.look k,a7];exact λh=>nomatch h
    have W:=Lib.hid Z;have f1:=L.Ie;have e9:=L.mlt;clear hf hr U b8 b7 a7 O Q c8 e5 Y c9 K y a8 Z;show Calls _ _ _ _ λe u=>e=.returned (.int .i64 0)/\Pool u p d S T ⟨P.S,P.C,upd P.L k (some (.node N))⟩/\Turn S w u
    go_enter Tryz.func145,Tryz.ntmps145
    go_wp2_with fail
    generalize w.alloc (.cells #[.int .i64 N.lvl,.slice A n c,.slice B G I] 75)=w1 at X N1 z1 c0 c1 c2 t1 H1 B1 ⊢;refine (a2.out w1 B1).mono ?_;rintro e w2 ⟨rfl,b2⟩;have J:=X.trans (b2.mono (by omega));have H2:=H1.below b2;go_wp2_with fail
    refine (b3.out w2 H2).mono ?_;rintro e f3 ⟨rfl,rfl⟩;go_wp2_with fail
    refine (b6.out w2 J).mono ?_;rintro e F ⟨A1,n1,q1,b0,m1,d1,rfl,_,_,_,_,b4⟩;have b5:Below F.1.size F (F.alloc (.cells #[.int .i64 0,.slice none 0 0,.slice none 0 0] 75)):=Qm;have R5:NB (F.alloc (.cells #[.int .i64 0,.slice none 0 0,.slice none 0 0] 75)) F.1.size 0 none 0 0 none 0 0:=NB.new F _ _ _ _ _ _ _ _;have B4:=J.trans (b4.mono J.size);go_wp2_with (first
     |(refine Gt rfl _ _ rfl F.1.size rfl M0.lvl A1 n1 q1 b0 m1 d1 rfl R5 ?_;intro E R6 T6;have e8:(bkE (.node M)!=0)=false:=rfl)
     |fail)
    have B3:Below w.1.size w E:=(B4.trans (b5.mono B4.size)).trans (T6.below (λk hk=>by have:=B4.size;omega) (by have h1:=B4.size;have h2:=b5.size;omega));have z2:=b2.size;have z3:=B3.size;have N3:NB E w.1.size N.lvl A n c B G I:=by
     have N2:=N1.below b2 (by omega);have N4:=N2.below b4 N2.lt;have N5:=N4.below b5 N4.lt;have e4:=N5.lt;obtain⟨t,h⟩:=N5;exact⟨t,(T6.block w.1.size e4 (by have:=N4.lt;omega)).trans h⟩
    have L3:=L.below B3;have e6:=L3.c40;have t3:Tab E:=ht.below B3 ht.1;have d8:w.1.size≠m:=λe=>by have h1:=hT m (L.sub _ L.Xu.2.1);omega
    have hF:∀u,Below E.1.size E u->u.cell? ⟨p,40,none⟩=some (.map (some m))/\u.cell? ⟨w.1.size,0,none⟩=some (.int .i64 N.lvl)/\u.cell? ⟨w.1.size,1,none⟩=some (.slice A n c)/\u.cell? ⟨w.1.size,2,none⟩=some (.slice B G I):=λu O=>
     have N':=N3.below O N3.lt;⟨(O.cell (p:=⟨p,40,none⟩) (by show p<_;omega)).trans e6,N'.c0,N'.c1,N'.c2⟩
    have d6:∀u (o:Obj),Below E.1.size E u->(setBlock u m o).cell? ⟨p,40,none⟩=some (.map (some m))/\(setBlock u m o).cell? ⟨w.1.size,0,none⟩=some (.int .i64 N.lvl)/\(setBlock u m o).cell? ⟨w.1.size,1,none⟩=some (.slice A n c)/\(setBlock u m o).cell? ⟨w.1.size,2,none⟩=some (.slice B G I):=λu o O=>by
     have hz:=O.size;have f0:=N3.lt;have TB:Turn (λk=>k=m) u (setBlock u m o):=q0p _ rfl;obtain⟨h1,h2,h3,h4⟩:=hF u O;have e1:=TB.block p (by omega) L.p_m;have e2:=TB.block w.1.size (by omega) d8;exact⟨(World.cell?_of_block (a:=⟨p,40,none⟩) e1).trans h1,(World.cell?_of_block (a:=⟨w.1.size,0,none⟩) e2).trans h2,(World.cell?_of_block (a:=⟨w.1.size,1,none⟩) e2).trans h3,(World.cell?_of_block (a:=⟨w.1.size,2,none⟩) e2).trans h4⟩
    have BD:Below E.1.size E E.drew:=(Below.refl _ _).drew;have d4:=Lib.hid (λ(u:World) (O:Below E.1.size E u) (v':Value)=>(congrArg (λz:Nat=>Result.ok () (setBlock u m (.map (Jy (k:Int) v' clock l).toArray z))) (if_neg W.out)).subst (motive:=λr=>(Instr.mapUpdate 101 (.map (some m)) (.int .i64 (k:Int)) v').run Tryz.prog u=r) (q2u L.ents Tryz.underlying101 Tryz.underlying3 ((O.block m (by omega)).trans L3.map) (k:Int) v'));have BI:=B0.trans ((B3.trans (BD.mono B3.size)).mono B0.size);clear c0 c1 c2 H1 H2 R6 R5;go_wp2_with fail
    go_region_held3 (λu=>u.cell? ⟨p,40,none⟩=some (.map (some m))/\u.cell? ⟨w.1.size,0,none⟩=some (.int .i64 N.lvl)/\u.cell? ⟨w.1.size,1,none⟩=some (.slice A n c)/\u.cell? ⟨w.1.size,2,none⟩=some (.slice B G I))
     (first|assumption|exact hF _ BD|exact hF _ a6|exact d6 _ _ a6)
     (first
      |(go_at_call 168;refine (qcc N (k:Int) 0 A n c B G I _ (hI.below BI) (hK.below BI) hn hm (t3.below BD t3.1)).mono ?_;rw[d3.out];rintro e F ⟨A3,n3,c3,rfl,a1,e0,d7⟩;have a6:Below E.1.size E F:=BD.trans d7;have f2:=d4.out F a6)
      |fail)
    obtain⟨q,rfl,rfl,rfl⟩:=e0 (by first|trivial|rfl);have hq:=(a1.block ⟨q,0,none⟩ rfl).1;obtain⟨R1,R2⟩:=L3.store (P':=⟨P.S,P.C,upd P.L k (some (.node N))⟩) (b:=.node N) (Turn.refl _ _) L3.ct a6 rfl rfl hk d2.out d0.out b9.out a1.sl (λh=>by have h1:=hT q h;have h2:E.drew.1.size=E.1.size:=rfl;have h3:E.drew.1.size<=q:=hq;omega);rw[if_neg W.out] at R1 R2;go_wp2;go_ret;exact⟨rfl,R1,(Qv (S:=S) B3).trans R2 λk hk=>.inl hk⟩
end
def Pl.cnt (P:Pl)(a:Nat):Nat:=(P.C.get (a:Int)).toNat
def Pl.names (P:Pl)(D:DM)(a:Nat):List Int:=(P.Qh D (a:Int)).named
def Pl.Uc (P:Pl)(D:DM)(H:List Int):Prop:=Jo P.C.n P.cnt (P.names D) H
theorem qaa {P:Pl}{a:Nat}(b:P.C.ok):1<=P.cnt a↔P.C.get (a:Int)≠0:=by
 have:=(Ct.Jc b (a:Int)).1;unfold Pl.cnt;omega
theorem qjv {P:Pl}(b:P.C.res):P.cnt 0=0:=by
 have h:P.C.get ((0:Nat):Int)=0:=by
  by_cases e:P.C.get ((0:Nat):Int)=0
  ·exact e
  ·have:=(Ct.Kw b e).2.2;have h2:P.C.first=2+2*Qe P.C.n:=rfl
   simp at this;omega
 unfold Pl.cnt;rw[h];rfl
theorem q2q (C:Ct){c:Nat}{x:Int}(b:Nat)(d:b<C.n):(C.put c x).get (b:Int)=if b=c then x else C.get (b:Int):=by
 unfold Ct.get;rw[C.Zi,if_pos (show 0<=(b:Int)/\(b:Int)<(C.n:Int) by omega),if_pos (show 0<=(b:Int)/\(b:Int)<(C.n:Int) by omega),Int.toNat_natCast,q6d C c x b d]
theorem qhy {P:Pl}{D:DM}{H:List Int}(h:P.Uc D H)(d:P.ok){y:Sp}{u:Ct}(B:Sound D P y u)(m:∀a b,P.L a=some b->b.good)(p:∀a:Nat,a<P.C.n->P.C.get (a:Int)≠0->(P.store D (a:Int)).2=0):P.done.Uc (D.Qk P.steps) H:=by
 unfold Pl.Uc at h ⊢;refine Jo.same (n:=P.C.n) h (λ_ _=>rfl) (λb A f=>?_);have h0:=(qaa d.c).1 f;have:=q8j d B m (b:Int) (p b A h0);have e:(P.done.store (D.Qk P.steps) (b:Int)).1=(P.store D (b:Int)).1:=by rw[this]
 show (P.done.Qh (D.Qk P.steps) (b:Int)).named=(P.Qh D (b:Int)).named;exact congrArg Nd.named e
structure Kq (D:DM)(P:Pl)(S0:Sp)(C0:Ct):Prop where
 ok:P.ok
 sound:Sound D P S0 C0
 nodes:∀a b,P.L a=some b->∃N,b=.node N/\N.may=true
theorem Kq.kind {D:DM}{P:Pl}{S0:Sp}{C0:Ct}(h:Kq D P S0 C0):∀a b,P.L a=some b->b.kindOk:=λa b d=>by
 obtain⟨N,rfl,_⟩:=h.nodes a b d;exact trivial
theorem Kq.good {D:DM}{P:Pl}{S0:Sp}{C0:Ct}(h:Kq D P S0 C0):∀a b,P.L a=some b->b.good:=λa b d=>by
 obtain⟨N,rfl,hm⟩:=h.nodes a b d;exact q6r hm
theorem Kq.put {D:DM}{P:Pl}{S0:Sp}{C0:Ct}(h:Kq D P S0 C0){N:Nd}(hN:N.may=true)(hf:0<P.C.free):Kq D (P.Zn N) S0 C0/\P.Jq N=0/\(P.Zn N).C.free+1=P.C.free:=by
 obtain⟨c,e⟩:=Ct.Ul hf;obtain⟨_,p,v3⟩:=q6s e hN;have f:=Ct.Uz e;have m:(P.Zn N).C=P.C.alloc:=by rw[v3,q37 e]
 refine⟨⟨by rw[v3];exact qo0 h.ok (qa7 hN),by rw[v3];exact qo2 h.sound _,λa b d=>?_⟩,p,by rw[m];exact f⟩;rw[v3,qfc e] at d;split at d
 ·obtain rfl:=Option.some.inj d;exact⟨N,rfl,hN⟩
 ·exact h.nodes a b d
theorem Kq.fresh:Kq ((DM.mk0 256).Qk (Xt 256)) (Pl.fresh 256) (fmtS 256) (Ct.zero 256)/\120<=(Pl.fresh 256).C.free:=by
 obtain⟨_,h,_⟩:=qdl (D:=DM.mk0 256) (n:=256) (by omega) (by omega) rfl ⟨rfl,rfl⟩;refine⟨⟨qje (by omega) (by omega),h,λa b d=>by cases d⟩,?_⟩;show 120<=(Ct.zero 256).free;rw[Ct.Pq];decide
def Zb (R:Int->Nd × Int)(root:Int)(its:List Qc):Prop:=(its=[]/\root=0)\/∃l,l<=6/\Qp R l root its/\1<=root/\root<2048
structure Lvl (D:DM)(its:List Qc)(f l:Nat)(P:Pl)(Ns:List Nd):Prop where
 Qa9:∃rows,Qa5 l (P.store D) Ns rows/\rows.flatten=its
 ok:P.ok
 free:2*Ns.length+10<=P.C.free
 one:1<=Ns.length
 fuel:l+f<=6
 need:1<=f/\(2<=Ns.length->2<=f)/\(13<=Ns.length->3<=f)/\Ns.length<=66
theorem Lvl.may {D:DM}{its:List Qc}{f l:Nat}{P:Pl}{Ns:List Nd}(h:Lvl D its f l P Ns):∀N∈Ns,N.may=true:=by
 obtain⟨rows,b,_⟩:=h.Qa9;exact b.may
theorem Lvl.done {D:DM}{its:List Qc}{f l:Nat}{P:Pl}{Ns:List Nd}(h:Lvl D its f l P Ns)(hone:Ns.length=1):Zb ((P.Yx Ns).store D) (Qg (Bv P Ns) 0).a its:=by
 obtain⟨rows,H,y⟩:=h.Qa9;have I:=h.free;have h1:=h.fuel;obtain⟨G,p,B,u⟩:=qce H h.ok (by omega);have d:G.length=Ns.length:=by have:=congrArg List.length p;rw[q6t,List.length_map] at this;omega
 have m:rowOf G=its:=by unfold rowOf;rw[B];exact y
 match G,d,p,u,m with
 |[t],_,p,u,m=>
  obtain⟨E,F⟩:=u t (List.mem_singleton.2 rfl);have e:(Qg (Bv P Ns) 0).a=t.1:=by rw[p];rfl
  have A:t.2=its:=by rw[<-m];unfold rowOf;simp
  rw[e,<-A];exact .inr ⟨l,by omega,E,F⟩
 |[],d,_,_,_=>exact absurd d (by rw[hone];simp)
 |a::b::r,d,_,_,_=>exact absurd d (by rw[hone];simp)
theorem Lvl.next {D:DM}{its:List Qc}{f l:Nat}{P:Pl}{Ns:List Nd}(h:Lvl D its (f+1) l P Ns)(cuts:List Int)(hr:Qd its)(hk:∀x∈its,x.k.may=true)(hone:Ns.length≠1):Lvl D its f (l+1) (P.Yx Ns) (U2 cuts (l+1) (Bv P Ns)):=by
 obtain⟨rows,H,d⟩:=h.Qa9;have J:=h.free;have h1:=h.fuel;have hm:=h.need;have h2:=h.one;obtain⟨K,M,O,I,Q,R⟩:=qe1 D Ns P h.ok H.may (by omega);obtain⟨G,u,B,E⟩:=qce H h.ok (by omega);have F:G.length=Ns.length:=by have:=congrArg List.length u;rw[q6t,List.length_map] at this;omega
 have b:rowOf G=its:=by unfold rowOf;rw[B];exact d
 obtain⟨e,y,m,p,A⟩:=qm9 cuts (l:=l) (by omega) (G:=G) E (by omega) (by rw[b];exact hr) (by rw[b];exact hk);rw[<-u] at e y m p;exact⟨⟨_,e,A.trans b⟩,I,by omega,m,by omega,by omega,λh=>by have:=p (by omega);omega,λh=>by omega,by omega⟩
def Ub (R:Int->Nd × Int)(a:Int):Nat:=(R a).1.lvl.toNat
def Bl (R:Int->Nd × Int)(k:Kd)(root:Int):List UInt8 × Int:=if root=0 then ([],10) else Aj R k (Ub R root) root
theorem Fq {R:Int->Nd × Int}:∀{l:Nat} {a:Int} {its:List Qc},Qp R l a its->Ub R a=l/\(R a).1.lvl=(l:Int)/\(R a).2=0
 |0,a,its,h=>by
  unfold Ub;rw[h.1];exact⟨rfl,rfl,rfl⟩
 |l+1,a,its,h=>by
  obtain⟨kids,parts,h1,_⟩:=h;unfold Ub;rw[h1];exact⟨Int.toNat_natCast _,rfl,rfl⟩
theorem qjx {R:Int->Nd × Int}{root:Int}{its:List Qc}(h:Zb R root its)(b:Qd its)(k:Kd):Bl R k root=Gl (valOf its k):=by
 unfold Bl;rcases h with⟨rfl,rfl⟩|⟨l,_,h,h1,_⟩
 ·rw[if_pos rfl];rfl
 ·rw[if_neg (by omega),(Fq h).1,qfg k l root its h b]
theorem qcg {ks:List Kd}(h:rises ks=true):∀(j i:Nat),i<j->j<ks.length->(keyAt ks i).less (keyAt ks j)=true
 |0,i,hi,_=>absurd hi (Nat.not_lt_zero _)
 |j+1,i,hi,hj=>by
  have h1:Wx ks (j+1)=true:=by
   unfold rises at h;rw[List.all_eq_true] at h;exact h _ (List.mem_range.2 hj)
  have h2:(keyAt ks j).less (keyAt ks (j+1))=true:=by
   unfold Wx at h1;simp at h1;exact h1.2
  by_cases e:i=j
  ·rw[e];exact h2
  ·exact Kd.trans _ _ _ (qcg h j i (by omega) (by omega)) h2
theorem q1r {N:Nd}(hm:N.may=true)(h0:N.lvl=0):N=⟨0,N.items,[]⟩/\Qd N.items/\1<=N.items.length/\N.items.length<=6:=by
 have y:=(Nj hm).1 h0;unfold Nd.may at hm;rw[if_pos h0,Bool.and_eq_true,Bool.and_eq_true] at hm;obtain⟨_,h2,b⟩:=hm;have b:=of_decide_eq_true b;refine⟨by cases N;simp_all,?_,b.2⟩;have u:N.keys=N.items.map (·.k):=by unfold Nd.keys;rw[y];simp
 rw[u] at h2;unfold Qd;rw[List.pairwise_iff_getElem];intro i j m f d;have:=qcg h2 j i d (by rw[List.length_map];exact f);rw[q18 _ m,q18 _ f] at this;have e:∀q (p:q<N.items.length),Qj N.items q=N.items[q]:=λq p=>by unfold Qj;rw[List.getD_eq_getElem?_getD,List.getElem?_eq_getElem p];rfl
 rwa [e i m,e j f] at this
theorem Py {N:Nd}(hm:N.may=true)(h0:N.lvl≠0):N=⟨N.lvl,[],N.kids⟩/\1<=N.lvl/\N.lvl<8/\2<=N.kids.length/\N.kids.length<=12/\∀k,N.Za k<N.kids.length:=by
 have y:=(Nj hm).2 h0;unfold Nd.may at hm;rw[if_neg h0,Bool.and_eq_true,Bool.and_eq_true] at hm;obtain⟨_,h2,u⟩:=hm;obtain⟨d,f,_,m,p⟩:=of_decide_eq_true u;refine⟨by cases N;simp_all,d,f,m,p,λk=>?_⟩;have b:N.keys=N.kids.map (·.k):=by unfold Nd.keys;rw[y];simp
 unfold Nd.Za;rw[if_neg h0,b,List.length_map];rcases q75 (N.kids.map (·.k)) k N.kids.length with e|e<;>omega
structure Pl.Ui (P:Pl)(D:DM):Prop where
 err:∀a:Nat,a<P.C.n->P.C.get (a:Int)≠0->P.Zh D (a:Int)=0
 may:∀a:Nat,a<P.C.n->P.C.get (a:Int)≠0->(P.Qh D (a:Int)).may=true
 bare:∀a:Nat,a<P.C.n->P.C.get (a:Int)≠0->∀x∈(P.Qh D (a:Int)).items,Ko x=none
 kids:∀a:Nat,a<P.C.n->P.C.get (a:Int)≠0->∀x∈(P.Qh D (a:Int)).kids,∃c:Nat,x.a=(c:Int)/\0<c/\c<P.C.n/\P.C.get (c:Int)≠0/\(P.Qh D (c:Int)).lvl+1=(P.Qh D (a:Int)).lvl/\(P.Qh D (c:Int)).least=x.k
def Pl.Oa (P:Pl)(D:DM)(a:Nat):Nat:=if P.C.get (a:Int)=0 then 0 else (P.Qh D (a:Int)).lvl.toNat+1
theorem qe3 {N:Nd}(h:N.may=true):0<=N.lvl/\N.lvl<8:=by
 by_cases h0:N.lvl=0
 ·omega
 ·have:=(Py h h0).2;omega
section
variable {P:Pl}{D:DM}
theorem q8k (h:P.Ui D){b:Nat}(d:b<P.C.n)(h0:P.C.get (b:Int)≠0):P.names D b=(P.Qh D (b:Int)).kids.map (·.a):=by
 unfold Pl.names Nd.named;rw[List.filterMap_eq_nil_iff.2 (h.bare b d h0),List.append_nil]
theorem qmb (h:P.Ui D){b a:Nat}(d:b<P.C.n)(h0:P.C.get (b:Int)≠0)(hm:(a:Int)∈P.names D b):0<a/\a<P.C.n/\P.C.get (a:Int)≠0/\(P.Qh D (a:Int)).lvl+1=(P.Qh D (b:Int)).lvl:=by
 rw[q8k h d h0] at hm;obtain⟨x,u,e⟩:=List.mem_map.1 hm;obtain⟨c,h1,h2,f,m,p,_⟩:=h.kids b d h0 x u;have:a=c:=by rw[h1] at e;omega
 subst this;exact⟨h2,f,m,p⟩
theorem qmc (h:P.Ui D)(f:P.C.ok)(b a:Nat)(e:b<P.C.n)(h1:1<=P.cnt b)(hm:(a:Int)∈P.names D b):P.Oa D a<P.Oa D b:=by
 have h0:=(qaa f).1 h1;obtain⟨_,m,d,p⟩:=qmb h e h0 hm;have u:=qe3 (h.may a m d);unfold Pl.Oa;rw[if_neg h0,if_neg d];omega
theorem qwc (h:P.Ui D)(b:Nat):P.Oa D b<=8:=by
 unfold Pl.Oa;by_cases h0:P.C.get (b:Int)=0
 ·rw[if_pos h0];omega
 ·rw[if_neg h0];obtain⟨c,e,d⟩:=Ae h0;have e:b=c:=by omega
  subst e;have f:=qe3 (h.may b d h0);omega
theorem qbp {H:List Int}(J:P.Uc D H)(h:P.Ui D)(E:P.C.ok)(d:P.C.res){S:Nat->Prop}(G:∀a:Nat,0<a->a<P.C.n->(a:Int)∈H->S a)
  (F:∀b a:Nat,0<b->b<P.C.n->0<a->a<P.C.n->P.C.get (b:Int)≠0->S b->(∃x∈(P.Qh D (b:Int)).kids,x.a=(a:Int))->S a) (a:Nat) (h1:a<P.C.n) (h2:P.C.get (a:Int)≠0):S a:=by
 have y:1<=P.cnt a:=(qaa E).2 h2;have f:0<a:=by
  rcases Nat.eq_zero_or_pos a with e|e
  ·subst e;have:=qjv d;omega
  ·exact e
 exact Jo.reached J (B:=8) (P.Oa D) (λb a p m hm=>qmc h E b a p m hm) (qwc h) (qjv d) G (λb a A p f I m u hm=>by
  have h0:=(qaa E).1 m;rw[q8k h p h0] at hm;obtain⟨x,K,e⟩:=List.mem_map.1 hm;exact F b a A p f I h0 u ⟨x,K,e⟩) (8-P.Oa D a) a (Nat.le_refl _) f h1 y
end
theorem qpa {b:List UInt8}{a:Int}{N:Nd}(h:Qz b a=some N):N.may=true:=by
 unfold Qz at h;split at h
 ·unfold Dh at h
  cases e:Jt (Yq b).level (Un b) (Yq b).count.toNat with
  |none=>rw[e] at h;cases h
  |some x=>
   obtain⟨M,r⟩:=x;rw[e] at h;dsimp only at h;by_cases d:(Yq b).kind=(if (Yq b).level=0 then 3 else 4)/\(Yq b).addr=a/\Y3 r=true/\M.may=true
   ·rw[if_pos d] at h;obtain rfl:=Option.some.inj h;exact d.2.2.2
   ·rw[if_neg d] at h
    cases h
 ·cases h
theorem qpb {P:Pl}{D:DM}(u:∀a b,P.L a=some b->b.good)(a:Int)(h:(P.store D a).2=0):(P.store D a).1.may=true:=by
 obtain⟨n,rfl,hn,h0⟩:=q4q h
 cases m:P.live n with
 |some b=>
  obtain⟨N,rfl,e⟩:=qcf h0 m h;rw[e];exact q45 (u n _ (q93 m).2)
 |none=>
  have d:P.Zh D (n:Int)=0:=h;unfold Pl.Zh at d;rw[if_neg h0,Int.toNat_natCast,m] at d;dsimp only at d;by_cases f:D.Ym (n:Int)=0
  ·rw[q7s h0 m f];rw[if_pos f] at d;unfold Xz at d;unfold X0
   cases p:Qz (D.Yu (n:Int)) (n:Int) with
   |some N=>exact qpa p
   |none=>rw[p] at d;simp at d
  ·rw[if_neg f] at d;exact absurd d f
structure Src (w0:World)(p:Nat)(R:Int->Nd × Int):Prop where
 node:∀u,Below w0.heap.size w0 u->Tab u->∀a,Calls Tryz.prog 35 #[.pointer (some ⟨p,0,none⟩),.int .i64 a] u λe w'=>q68 (R a).1 (R a).2 u e w'
 may:∀a,(R a).2=0->(R a).1.may=true
theorem qvb {w:World}{p d:Nat}{m S T:Nat->Prop}{D:DM}{P:Pl}(f:Y9 w d m D)(H:Pool w p d S T P)(y:∀a b,P.L a=some b->b.kindOk)(u:∀a b,P.L a=some b->b.good):Src w p (P.store D):=
 ⟨λ_ e A a=>qa5 (f.below e) (H.below e) y A a,λa h=>qpb u a h⟩
theorem Src.below {w0 w1:World}{p:Nat}{R:Int->Nd × Int}(h:Src w0 p R)(hb:Below w0.1.size w0 w1):Src w1 p R:=
 ⟨λu d b a=>h.node u (hb.trans (d.mono hb.size)) b a,h.may⟩
