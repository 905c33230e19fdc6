/- A pool's nodes as a store; nodes that are laid down one behind the other -/
import Derived.Test.YthkfkhejjmhomaaGreatDoorDb27
namespace Go.Proofs.YthkfkhejjmhomaaGreatDoor
open Go Go.RowKit Go.Proofs
set_option maxHeartbeats 8000000
set_option maxRecDepth 100000
def Pl.store (P:Pl)(D:DM):Int->Nd × Int:=λa=>(P.Qd D a,P.Qi D a)
theorem qdi {P:Pl}{c:Nat}(h:P.C.pick=some c){N:Nd}(e:N.may=true):P.Yz N=(c:Int)/\P.Jk N=0/\P.Jj N=P.lay (.node N):=by
 obtain⟨f,m,_⟩:=Ct.Xo h;unfold Pl.Yz Pl.Jk Pl.Jj;rw[if_pos e,if_pos e,if_pos e];exact⟨m,f,rfl⟩
theorem qpc {P:Pl}{D:DM}{a:Int}(h:(P.store D a).2=0):∃n:Nat,a=(n:Int)/\n<P.C.n/\P.C.get (n:Int)≠0:=by
 have h0:P.C.get a≠0:=λe=>by
  have h:P.Qi D a=0:=h;unfold Pl.Qi at h;rw[if_pos e] at h
  cases h
 obtain⟨n,rfl,hn⟩:=Gq h0;exact⟨n,rfl,hn,h0⟩
theorem qpd {P:Pl}(D:DM){c:Nat}(h:P.C.pick=some c){N:Nd}(m:N.may=true):(P.Jj N).store D (c:Int)=(N,0):=by
 obtain⟨u,_⟩:=Ct.Yd h;have f:=qhf h (.node N) c u;have e:=qhg h (.node N) c;rw[if_pos rfl] at f e;rw[(qdi h m).2.2];unfold Pl.store Pl.Qd Pl.Qi Pl.live;rw[Int.toNat_natCast,f,e];rfl
theorem qff {N:Nd}(e:N.may=true):(Bk.node N).fine:=(q4c e).fine
theorem qa1 {p:List Qb}(h:p≠[]):(⟨0,p,[]⟩:Nd).least=(Zb p 0).k:=by
 have e:0<p.length:=List.length_pos_iff.2 h;unfold Nd.least;rw[q1m,List.length_map,if_neg (by omega),q17 p e]
theorem qbu (l:Int){q:List Qj}(h:q≠[]):(⟨l,[],q⟩:Nd).least=(Qe q 0).k:=by
 have e:0<q.length:=List.length_pos_iff.2 h;unfold Nd.least;rw[q4q,List.length_map,if_neg (by omega),q4r q e]
structure Qco (l:Nat)(R:Int->Nd × Int)(Ns:List Nd)(rows:List (List Qb)):Prop where
 len:rows.length=Ns.length
 may:∀N∈Ns,N.may=true
 holds:∀(j:Nat) (N:Nd) (p:List Qb),Ns[j]?=some N->rows[j]?=some p->N.least=(Zb p 0).k/\∀(R':Int->Nd × Int) (a:Int),(∀b,(R b).2=0->R' b=R b)->R' a=(N,0)->Qm R' l a p
theorem qpe {G:List Zz}{x:Qb}:x∈rowOf G↔∃t∈G,x∈t.2:=by
 unfold rowOf;rw[List.mem_flatten];constructor
 ·rintro⟨r,m,f⟩;obtain⟨t,e,rfl⟩:=List.mem_map.1 m;exact⟨t,e,f⟩
 ·rintro⟨t,e,f⟩;exact⟨_,List.mem_map_of_mem e,f⟩
structure Grew (P P':Pl)(D:DM)(root:Int)(its:List Qb):Prop where
 tree:∃l,l<=6/\Qm (P'.store D) l root its
 ok:P'.ok
 n:P'.C.n=P.C.n
 S:P'.S=P.S
 free:10<=P'.C.free
 old:∀a,(P.store D a).2=0->P'.store D a=P.store D a
 lo:1<=root/\root<2048
def P7 (R R':Int->Nd × Int):Prop:=∀a,(R a).2=0->R' a=R a\/(R' a).2=5
theorem qm5 {P:Pl}{D:DM}{n:Nat}(h0:P.C.get (n:Int)≠0)(f:P.live n=none)(e:D.Ye (n:Int)=0):P.store D (n:Int)=(Xk (D.Yp (n:Int)) (n:Int),Xi (D.Yp (n:Int)) (n:Int) 5):=by
 unfold Pl.store Pl.Qd Pl.Qi;rw[if_neg h0,if_neg h0,Int.toNat_natCast,f];dsimp only;rw[if_pos e,if_pos e]
theorem qm6 {P:Pl}{D:DM}{n:Nat}(h0:P.C.get (n:Int)≠0){b:Bk}(f:P.live n=some b)(e:(P.store D (n:Int)).2=0):∃N,b=.node N/\P.store D (n:Int)=(N,0):=by
 cases b with
 |node N=>
  refine⟨N,rfl,?_⟩;unfold Pl.store Pl.Qd Pl.Qi;rw[if_neg h0,if_neg h0,Int.toNat_natCast,f]
 |bytes k l=>
  have e:P.Qi D (n:Int)=0:=e;unfold Pl.Qi at e;rw[if_neg h0,Int.toNat_natCast,f] at e;have e:(1:Int)=0:=e;omega
section
open Go.ChangeMaps (setBlock)
def isNode:Option Bk->Bool
 |some (.node _)=>true
 |_=>false
def Pl.Ea (P:Pl)(a:Int)(N:Nd):Bool:=N.may&&(P.C.fresh a&&isNode (P.L a.toNat))
def Pl.Gu (P:Pl)(a:Int)(N:Nd):Int:=if P.Ea a N=true then 0 else 1
def Pl.Vp (P:Pl)(a:Int)(N:Nd):Pl:=if P.Ea a N=true then ⟨P.S,P.C,upd P.L a.toNat (some (.node N))⟩ else P
theorem q38 {C:Ct}{a:Int}(h:C.fresh a=true):C.get a≠0:=λh0=>by
 unfold Ct.fresh at h;rw[if_pos h0] at h
 cases h
def bkE:Bk->Int
 |.node _=>0
 |.bytes _ _=>1
theorem qdj {P:Pl}(D:DM){k:Nat}(h0:P.C.get (k:Int)≠0){b:Bk}(h:P.live k=some b):P.Qi D (k:Int)=bkE b:=by
 unfold Pl.Qi;rw[if_neg h0,Int.toNat_natCast,h]
 cases b<;>rfl
theorem qm7 {w0 w:World}{p d:Nat}{S0 S T:Nat->Prop}{D:DM}{P:Pl}(L0:Wu w d S0 D)(H:Pool w p d S T P)(e3:∀a b,P.L a=some b->b.kindOk)(d9:∀a:Nat,P.C.fresh (a:Int)=true->∃b,P.L a=some b)(hT:∀k,T k->k<w.1.size)(B0:Below w0.1.size w0 w)(a:Int)(N:Nd)(A:Option Addr)(n c:Nat)(B:Option Addr)(G I:Nat)(hI:Jg w0 A n c N.items)(hK:Zk w0 B G I N.kids)(hn:n<=1000)(hm:G<=1000)(ht:Tab w) :
  Calls Tryz.prog 237 #[.pointer (some ⟨p,0,none⟩),.int .i64 a,.agg #[.int .i64 N.lvl,.slice A n c,.slice B G I]] w λe u=>e=.returned (.int .i64 (P.Gu a N))/\Pool u p d S T (P.Vp a N)/\Turn S w u:=by
 have R:=H.ok;have N1:NB (w.alloc (.cells #[.int .i64 N.lvl,.slice A n c,.slice B G I] 77)) w.1.size N.lvl A n c B G I:=NB.new w _ _ _ _ _ _ _ _;have X:Below w.1.size w (w.alloc (.cells #[.int .i64 N.lvl,.slice A n c,.slice B G I] 77)):=Qk;have z1:(w.alloc (.cells #[.int .i64 N.lvl,.slice A n c,.slice B G I] 77)).1.size=w.1.size+1:=by simp
 obtain⟨r,hr⟩:∃r,N.may=r:=⟨_,rfl⟩;obtain⟨f,hf⟩:∃f,P.C.fresh a=f:=⟨_,rfl⟩;have a2:=Lib.hid (λw (hw:Below w0.1.size w0 w)=>q1z N r hr A n c B G I w (hI.below hw) (hK.below hw) hn hm);have b3:=Lib.hid (λ(w1:World) (H1:Pool w1 p d S T P)=>q7c H1 a f hf);have c0:=N1.c0;have c1:=N1.c1;have c2:=N1.c2;have t1:=ht.below X ht.1;have H1:=H.below X;have B1:=B0.trans (X.mono B0.size);have hE:P.Gu a N=if (r&&(f&&isNode (P.L a.toNat)))=true then 0 else 1:=by unfold Pl.Gu Pl.Ea;rw[hr,hf]
 have hP:P.Vp a N=if (r&&(f&&isNode (P.L a.toNat)))=true then ⟨P.S,P.C,upd P.L a.toNat (some (.node N))⟩ else P:=by unfold Pl.Vp Pl.Ea;rw[hr,hf]
 rw[hE,hP];clear hE hP
 cases r with
 |false=>
  clear hf hr;go_enter Tryz.func237,Tryz.ntmps237
  go_wp2_with fail
  generalize w.alloc (.cells #[.int .i64 N.lvl,.slice A n c,.slice B G I] 77)=w1 at X N1 z1 c0 c1 c2 t1 H1 B1 ⊢;refine (a2.out w1 B1).mono ?_;rintro e w2 ⟨rfl,b2⟩;have J:=X.trans (b2.mono (by omega));go_wp2;go_ret;exact⟨rfl,H.below J,Qx J⟩
 |true=>
  cases f with
  |false=>
   clear hf hr;go_enter Tryz.func237,Tryz.ntmps237
   go_wp2_with fail
   generalize w.alloc (.cells #[.int .i64 N.lvl,.slice A n c,.slice B G I] 77)=w1 at X N1 z1 c0 c1 c2 t1 H1 B1 ⊢;refine (a2.out w1 B1).mono ?_;rintro e w2 ⟨rfl,b2⟩;have J:=X.trans (b2.mono (by omega));have H2:=H.below J;go_wp2_with fail
   refine (b3.out w2 H2).mono ?_;rintro e E ⟨rfl,rfl⟩;go_wp2;go_ret;exact⟨rfl,H2,Qx J⟩
  |true=>
   have Q:=q38 hf;obtain⟨k,rfl,hk⟩:=Gq Q;rw[Int.toNat_natCast];have c7:k<=2047:=by have:=R.c.1;omega
   obtain⟨b,O⟩:=d9 k hf;have a7:P.live k=some b:=by unfold Pl.live;rw[if_neg Q];exact O
   have b8:=qdj D Q a7;have U:=λ(w2:World) (bb:Below w.1.size w w2)=>qp7 (L0.below bb) (H.below bb) e3 (ht.below bb ht.1) (k:Int)
   rw[b8] at U;obtain⟨M0,b7⟩:∃M0,P.Qd D (k:Int)=M0:=⟨_,rfl⟩;rw[b7] at U
   cases b with
   |bytes kk l=>
    rw[O];have b6:=Lib.hid U;clear hf hr U b8 b7 a7 O Q;show Calls _ _ _ _ λe u=>e=.returned (.int .i64 1)/\Pool u p d S T P/\Turn S w u
    go_enter Tryz.func237,Tryz.ntmps237
    go_wp2_with fail
    generalize w.alloc (.cells #[.int .i64 N.lvl,.slice A n c,.slice B G I] 77)=w1 at X N1 z1 c0 c1 c2 t1 H1 B1 ⊢;refine (a2.out w1 B1).mono ?_;rintro e w2 ⟨rfl,b2⟩;have J:=X.trans (b2.mono (by omega));have H2:=H.below J;go_wp2_with fail
    refine (b3.out w2 H2).mono ?_;rintro e E ⟨rfl,rfl⟩;go_wp2_with fail
    refine (b6.out w2 J).mono ?_;rintro e F ⟨A1,n1,q1,b0,m1,d1,rfl,_,_,_,_,b4⟩;have b5:Below F.1.size F (F.alloc (.cells #[.int .i64 0,.slice none 0 0,.slice none 0 0] 77)):=Qk;have R5:NB (F.alloc (.cells #[.int .i64 0,.slice none 0 0,.slice none 0 0] 77)) F.1.size 0 none 0 0 none 0 0:=NB.new F _ _ _ _ _ _ _ _;go_wp2_with (first
     |(refine Gp rfl _ _ rfl F.1.size rfl M0.lvl A1 n1 q1 b0 m1 d1 rfl R5 ?_;intro w6 R6 T6)
     |fail)
    go_ret;have B4:=J.trans (b4.mono J.size);have B6:Below w.1.size w w6:=(B4.trans (b5.mono B4.size)).trans (T6.below (λk hk=>by have:=B4.size;omega) (by have h1:=B4.size;have h2:=b5.size;omega));exact⟨rfl,H.below B6,Qx B6⟩
   |node M=>
    rw[O];have b6:=Lib.hid U;obtain⟨c8,e5,_⟩:=q6k hr c7 q2l;have c6:=q4c hr;have Y:=c6.len (a:=k) (g:=0) c7 q2l;have c9:(Bk.node N).out k 0=Jp N (k:Int) 0:=rfl;rw[c9] at Y;have d3:=Lib.hid c8;have e7:=Lib.hid Y;have K:∀c:Nat,Pl.live ⟨P.S,P.C,upd P.L k (some (.node N))⟩ c=if c=k then some (.node N) else P.live c:=λc=>by
     unfold Pl.live;by_cases e:c=k
     ·subst e;rw[if_pos rfl,if_neg Q];exact Bd _ _ _
     ·rw[if_neg e];show (if _ then _ else upd P.L k _ c)=_;rw[Au _ _ e]
    have y:∀c x,(upd P.L k (some (.node N))) c=some x->x.good:=λc x h=>by
     by_cases e:c=k
     ·subst e;rw[Bd] at h;injection h with h;rw[<-h];exact c6
     ·rw[Au _ _ e] at h;obtain⟨m,d5,l,clock,v,Sc,L⟩:=H;exact L.good c x h
    have a8:Pl.ok ⟨P.S,P.C,upd P.L k (some (.node N))⟩:=⟨R.c,R.res,R.may,R.sec,R.gen,λc x h=>(y c x h).fine⟩;have d2:=Lib.hid K;have d0:=Lib.hid y;have b9:=Lib.hid a8;obtain⟨m,d5,l,clock,v,Sc,L⟩:=H;have Z:¬Zf (k:Int) l=none:=by rw[L.look k,a7];exact λh=>nomatch h
    have W:=Lib.hid Z;have f1:=L.F8;have e9:=L.mlt;clear hf hr U b8 b7 a7 O Q c8 e5 Y c9 K y a8 Z;show Calls _ _ _ _ λe u=>e=.returned (.int .i64 0)/\Pool u p d S T ⟨P.S,P.C,upd P.L k (some (.node N))⟩/\Turn S w u
    go_enter Tryz.func237,Tryz.ntmps237
    go_wp2_with fail
    generalize w.alloc (.cells #[.int .i64 N.lvl,.slice A n c,.slice B G I] 77)=w1 at X N1 z1 c0 c1 c2 t1 H1 B1 ⊢;refine (a2.out w1 B1).mono ?_;rintro e w2 ⟨rfl,b2⟩;have J:=X.trans (b2.mono (by omega));have H2:=H1.below b2;go_wp2_with fail
    refine (b3.out w2 H2).mono ?_;rintro e f3 ⟨rfl,rfl⟩;go_wp2_with fail
    refine (b6.out w2 J).mono ?_;rintro e F ⟨A1,n1,q1,b0,m1,d1,rfl,_,_,_,_,b4⟩;have b5:Below F.1.size F (F.alloc (.cells #[.int .i64 0,.slice none 0 0,.slice none 0 0] 77)):=Qk;have R5:NB (F.alloc (.cells #[.int .i64 0,.slice none 0 0,.slice none 0 0] 77)) F.1.size 0 none 0 0 none 0 0:=NB.new F _ _ _ _ _ _ _ _;have B4:=J.trans (b4.mono J.size);go_wp2_with (first
     |(refine Gp rfl _ _ rfl F.1.size rfl M0.lvl A1 n1 q1 b0 m1 d1 rfl R5 ?_;intro E R6 T6;have e8:(bkE (.node M)!=0)=false:=rfl)
     |fail)
    have B3:Below w.1.size w E:=(B4.trans (b5.mono B4.size)).trans (T6.below (λk hk=>by have:=B4.size;omega) (by have h1:=B4.size;have h2:=b5.size;omega));have z2:=b2.size;have z3:=B3.size;have N3:NB E w.1.size N.lvl A n c B G I:=by
     have N2:=N1.below b2 (by omega);have N4:=N2.below b4 N2.lt;have N5:=N4.below b5 N4.lt;have e4:=N5.lt;obtain⟨t,h⟩:=N5;exact⟨t,(T6.block w.1.size e4 (by have:=N4.lt;omega)).trans h⟩
    have L3:=L.below B3;have e6:=L3.c40;have t3:Tab E:=ht.below B3 ht.1;have d8:w.1.size≠m:=λe=>by have h1:=hT m (L.sub _ L.Yn.2.1);omega
    have hF:∀u,Below E.1.size E u->u.cell? ⟨p,40,none⟩=some (.map (some m))/\u.cell? ⟨w.1.size,0,none⟩=some (.int .i64 N.lvl)/\u.cell? ⟨w.1.size,1,none⟩=some (.slice A n c)/\u.cell? ⟨w.1.size,2,none⟩=some (.slice B G I):=λu O=>
     have N':=N3.below O N3.lt;⟨(O.cell (p:=⟨p,40,none⟩) (by show p<_;omega)).trans e6,N'.c0,N'.c1,N'.c2⟩
    have d6:∀u (o:Obj),Below E.1.size E u->(setBlock u m o).cell? ⟨p,40,none⟩=some (.map (some m))/\(setBlock u m o).cell? ⟨w.1.size,0,none⟩=some (.int .i64 N.lvl)/\(setBlock u m o).cell? ⟨w.1.size,1,none⟩=some (.slice A n c)/\(setBlock u m o).cell? ⟨w.1.size,2,none⟩=some (.slice B G I):=λu o O=>by
     have hz:=O.size;have f0:=N3.lt;have TB:Turn (λk=>k=m) u (setBlock u m o):=q0t _ rfl;obtain⟨h1,h2,h3,h4⟩:=hF u O;have e1:=TB.block p (by omega) L.p_m;have e2:=TB.block w.1.size (by omega) d8;exact⟨(World.cell?_of_block (a:=⟨p,40,none⟩) e1).trans h1,(World.cell?_of_block (a:=⟨w.1.size,0,none⟩) e2).trans h2,(World.cell?_of_block (a:=⟨w.1.size,1,none⟩) e2).trans h3,(World.cell?_of_block (a:=⟨w.1.size,2,none⟩) e2).trans h4⟩
    have BD:Below E.1.size E E.drew:=(Below.refl _ _).drew;have d4:=Lib.hid (λ(u:World) (O:Below E.1.size E u) (v':Value)=>(congrArg (λz:Nat=>Result.ok () (setBlock u m (.map (J3 (k:Int) v' clock l).toArray z))) (if_neg W.out)).subst (motive:=λr=>(Instr.mapUpdate 123 (.map (some m)) (.int .i64 (k:Int)) v').run Tryz.prog u=r) (q2h L.ents Tryz.underlying123 Tryz.underlying3 ((O.block m (by omega)).trans L3.map) (k:Int) v'));have BI:=B0.trans ((B3.trans (BD.mono B3.size)).mono B0.size);clear c0 c1 c2 H1 H2 R6 R5;go_wp2_with fail
    go_region_held3 (λu=>u.cell? ⟨p,40,none⟩=some (.map (some m))/\u.cell? ⟨w.1.size,0,none⟩=some (.int .i64 N.lvl)/\u.cell? ⟨w.1.size,1,none⟩=some (.slice A n c)/\u.cell? ⟨w.1.size,2,none⟩=some (.slice B G I))
     (first|assumption|exact hF _ BD|exact hF _ a6|exact d6 _ _ a6)
     (first
      |(go_at_call 251;refine (qbr N (k:Int) 0 A n c B G I _ (hI.below BI) (hK.below BI) hn hm (t3.below BD t3.1)).mono ?_;rw[d3.out];rintro e F ⟨A3,n3,c3,rfl,a1,e0,d7⟩;have a6:Below E.1.size E F:=BD.trans d7;have f2:=d4.out F a6)
      |fail)
    obtain⟨q,rfl,rfl,rfl⟩:=e0 (by first|trivial|rfl);have hq:=(a1.block ⟨q,0,none⟩ rfl).1;obtain⟨R1,R2⟩:=L3.store (P':=⟨P.S,P.C,upd P.L k (some (.node N))⟩) (b:=.node N) (Turn.refl _ _) L3.ct a6 rfl rfl hk d2.out d0.out b9.out a1.sl (λh=>by have h1:=hT q h;have h2:E.drew.1.size=E.1.size:=rfl;have h3:E.drew.1.size<=q:=hq;omega);rw[if_neg W.out] at R1 R2;go_wp2;go_ret;exact⟨rfl,R1,(Qx (S:=S) B3).trans R2 λk hk=>.inl hk⟩
end
def Pl.cnt (P:Pl)(a:Nat):Nat:=(P.C.get (a:Int)).toNat
def Pl.names (P:Pl)(D:DM)(a:Nat):List Int:=(P.Qd D (a:Int)).named
def Pl.Ad (P:Pl)(D:DM)(H:List Int):Prop:=Jz P.C.n P.cnt (P.names D) H
theorem qhn {P:Pl}{a:Nat}(e:P.C.ok):1<=P.cnt a↔P.C.get (a:Int)≠0:=by
 have:=(Ct.Zv e (a:Int)).1;unfold Pl.cnt;omega
theorem qji {P:Pl}(f:P.C.res):P.cnt 0=0:=by
 have h:P.C.get ((0:Nat):Int)=0:=by
  by_cases e:P.C.get ((0:Nat):Int)=0
  ·exact e
  ·have:=(Ct.Vk f e).2.2;have h2:P.C.first=2+2*Qh P.C.n:=rfl
   simp at this;omega
 unfold Pl.cnt;rw[h];rfl
theorem q1x (C:Ct){c:Nat}{x:Int}(b:Nat)(e:b<C.n):(C.put c x).get (b:Int)=if b=c then x else C.get (b:Int):=by
 unfold Ct.get;rw[C.Zh,if_pos (show 0<=(b:Int)/\(b:Int)<(C.n:Int) by omega),if_pos (show 0<=(b:Int)/\(b:Int)<(C.n:Int) by omega),Int.toNat_natCast,q5r C c x b e]
structure Wy (D:DM)(P:Pl)(S0:Sp)(C0:Ct):Prop where
 ok:P.ok
 sound:Sound D P S0 C0
 kinds:∀a b,P.L a=some b->b.kindOk/\b.good
theorem Wy.kind {D:DM}{P:Pl}{S0:Sp}{C0:Ct}(h:Wy D P S0 C0):∀a b,P.L a=some b->b.kindOk:=λa b e=>(h.kinds a b e).1
theorem Wy.good {D:DM}{P:Pl}{S0:Sp}{C0:Ct}(h:Wy D P S0 C0):∀a b,P.L a=some b->b.good:=λa b e=>(h.kinds a b e).2
theorem Wy.put {D:DM}{P:Pl}{S0:Sp}{C0:Ct}(h:Wy D P S0 C0){N:Nd}(hN:N.may=true)(hf:0<P.C.free):Wy D (P.Jj N) S0 C0/\P.Jk N=0/\(P.Jj N).C.free+1=P.C.free:=by
 obtain⟨c,f⟩:=Ct.Cc hf;obtain⟨_,y,v3⟩:=qdi f hN;have m:=Ct.Bl f;have u:(P.Jj N).C=P.C.alloc:=by rw[v3,q3r f]
 refine⟨⟨by rw[v3];exact qvx h.ok (qff hN),by rw[v3];exact qop h.sound _,λa b e=>?_⟩,y,by rw[u];exact m⟩;rw[v3,qhg f] at e;split at e
 ·obtain rfl:=Option.some.inj e;exact⟨trivial,q4c hN⟩
 ·exact h.kinds a b e
def Ji (R:Int->Nd × Int)(root:Int)(its:List Qb):Prop:=(its=[]/\root=0)\/∃l,l<=6/\Qm R l root its/\1<=root/\root<2048
structure Lvl (D:DM)(its:List Qb)(f l:Nat)(P:Pl)(Ns:List Nd):Prop where
 Qcq:∃rows,Qco l (P.store D) Ns rows/\rows.flatten=its
 ok:P.ok
 free:2*Ns.length+10<=P.C.free
 one:1<=Ns.length
 fuel:l+f<=6
 need:1<=f/\(2<=Ns.length->2<=f)/\(13<=Ns.length->3<=f)/\Ns.length<=66
theorem Lvl.may {D:DM}{its:List Qb}{f l:Nat}{P:Pl}{Ns:List Nd}(h:Lvl D its f l P Ns):∀N∈Ns,N.may=true:=by
 obtain⟨rows,b,_⟩:=h.Qcq;exact b.may
section
open Go.ChangeMaps (setBlock)
theorem qdk {w:World}{p d:Nat}{S T:Nat->Prop}{P:Pl}(H:Pool w p d S T P)(hT:∀k,T k->k<w.1.size)(hG:¬T 1)(N:Nd)(A:Option Addr)(n c:Nat)(B:Option Addr)(G I:Nat)(a7:∀u,Turn S w u->Jg u A n c N.items/\Zk u B G I N.kids)(hn:n<=1000)(hm:G<=1000)(ht:Tab w) :
  Calls Tryz.prog 232 #[.pointer (some ⟨p,0,none⟩),.agg #[.int .i64 N.lvl,.slice A n c,.slice B G I]] w λe u=>e=.returned (.tuple #[.int .i64 (P.Yz N),.int .i64 (P.Jk N)])/\Pool u p d S T (P.Jj N)/\Turn S w u/\Tab u:=by
 have b3:=H.ok;have N1:NB (w.alloc (.cells #[.int .i64 N.lvl,.slice A n c,.slice B G I] 77)) w.1.size N.lvl A n c B G I:=NB.new w _ _ _ _ _ _ _ _;have W:Below w.1.size w (w.alloc (.cells #[.int .i64 N.lvl,.slice A n c,.slice B G I] 77)):=Qk;have z1:(w.alloc (.cells #[.int .i64 N.lvl,.slice A n c,.slice B G I] 77)).1.size=w.1.size+1:=by simp
 have a6:=λr hr u (hw:Turn S w u)=>q1z N r hr A n c B G I u (a7 u hw).1 (a7 u hw).2 hn hm
 have c0:=N1.c0;have c1:=N1.c1;have c2:=N1.c2;have t1:=ht.below W ht.1;have H1:=H.below W;have B1:Turn S w (w.alloc (.cells #[.int .i64 N.lvl,.slice A n c,.slice B G I] 77)):=Qx W
 cases f:N.may with
 |false=>
  have e1:P.Yz N=0:=by unfold Pl.Yz;rw[f];rfl
  have Z:P.Jk N=1:=by unfold Pl.Jk;rw[f];rfl
  have e3:P.Jj N=P:=by unfold Pl.Jj;rw[f];rfl
  rw[e1,Z,e3];have X:=Lib.hid (a6 false f);clear f e1 Z e3 a6;go_enter Tryz.func232,Tryz.ntmps232
  go_wp2_with fail
  generalize w.alloc (.cells #[.int .i64 N.lvl,.slice A n c,.slice B G I] 77)=w1 at W N1 z1 c0 c1 c2 t1 H1 B1 ⊢;refine (X.out w1 B1).mono ?_;rintro e w2 ⟨rfl,K⟩;go_wp2;go_ret2;have BB:=W.trans (K.mono (by omega));exact⟨rfl,H.below BB,Qx BB,ht.below BB ht.1⟩
 |true=>
  have b0:=q4c f;have e1:P.Yz N=P.C.U4:=by unfold Pl.Yz;rw[f];rfl
  have Z:P.Jk N=P.C.U3:=by unfold Pl.Jk;rw[f];rfl
  have e3:P.Jj N=P.lay (.node N):=by unfold Pl.Jj;rw[f];rfl
  have c9:=λ(a:Nat) (ha:a<=2047)=>q6k f ha q2l
  have X:=Lib.hid (a6 true f);have d4:=Lib.hid c9;rw[e1,Z,e3];clear f a6 c9 e1 Z e3;have H0:=H;obtain⟨m,d5,l,clock,v,Sc,L⟩:=H1;have c6:=L.F8;have b8:=L.mlt
  cases hp:P.C.pick with
  |none=>
   obtain⟨a1,a2,a3⟩:=Ct.Vh hp;have F:=λ(w2:World) (C2:Yj w2 p 36 Sc P.C)=>qbk C2
   rw[a1,a2,a3] at F;rw[a1,a2,qdh hp];have F:=Lib.hid F;clear a1 a2 a3 hp;go_enter Tryz.func232,Tryz.ntmps232
   go_wp2_with fail
   generalize w.alloc (.cells #[.int .i64 N.lvl,.slice A n c,.slice B G I] 77)=w1 at W N1 z1 c0 c1 c2 t1 B1 L c6 b8 ⊢;refine (X.out w1 B1).mono ?_;rintro e w2 ⟨rfl,K⟩;have y:=L.below K;go_wp2_with fail
   refine (F.out w2 y.ct).mono ?_;rintro e E ⟨rfl,C3,U⟩;go_wp2;go_ret2;have BB:=W.trans (K.mono (by omega));have X3:Turn S w E:=(Qx (S:=S) BB).trans (U.mono y.Yn.2.2) λk hk=>.inl hk
   exact⟨rfl,⟨m,d5,l,clock,v,Sc,y.Qbi U C3 rfl (λ_=>Iff.rfl) b3⟩,X3,ht.turned X3 λh=>hG (y.sub _ h)⟩
  |some a=>
   obtain⟨a1,a2,a3⟩:=Ct.Xo hp;have d7:=(Ct.Yd hp).1;have M:P.C.get (a:Int)=0:=by unfold Ct.get;rw[if_pos (by omega),Int.toNat_natCast];exact (Ct.Yd hp).2.2.1
   have Q:Zf (a:Int) l=none:=by rw[L.look a];unfold Pl.live;rw[if_pos M];rfl
   have J:=Lib.hid Q;have f0:=b3.c.1;have hS:=qyt (P:=P) (.node N);have b9:=qtc (P:=P) (.node N);have a8:=qvx b3 b0.fine;have b5:P.C.alloc=(P.lay (.node N)).C:=by rw[q3r hp]
   have b7:=qtp hp (.node N);have b6:=qtq b0 L.good;have F:=λ(w2:World) (C2:Yj w2 p 36 Sc P.C)=>qbk C2
   rw[a1,a2,b5] at F;rw[a1,a2];obtain⟨c7,e7,_⟩:=d4.out a (by omega);have O:=b0.len (a:=a) (g:=0) (by omega) q2l;have c8:(Bk.node N).out a 0=Jp N (a:Int) 0:=rfl;rw[c8] at O;have d2:=Lib.hid c7;have e9:=Lib.hid O;have F:=Lib.hid F;have d1:=Lib.hid b7;have d0:=Lib.hid b6;have b4:=Lib.hid a8;have HS:=Lib.hid hS;have Hn:=Lib.hid b9;clear a1 a2 a3 hp b5 hS b9 a8 b7 b6 c7 e7 O Q M c8;go_enter Tryz.func232,Tryz.ntmps232
   go_wp2_with fail
   generalize w.alloc (.cells #[.int .i64 N.lvl,.slice A n c,.slice B G I] 77)=w1 at W N1 z1 c0 c1 c2 t1 B1 L c6 b8 ⊢;refine (X.out w1 B1).mono ?_;rintro e w2 ⟨rfl,K⟩;have y:=L.below K;go_wp2_with fail
   refine (F.out w2 y.ct).mono ?_;rintro e E ⟨rfl,C3,U⟩;have z2:=K.size;have z3:=U.size;have N2:=N1.below K (by omega);have e6:=U.block p y.F8 λh=>(y.ne p h).1 rfl
   have e5:=U.block m y.mlt λh=>(y.ne m h).2 rfl
   have B3:Turn S w E:=(Qx (S:=S) (W.trans (K.mono (by omega)))).trans (U.mono y.Yn.2.2) λk hk=>.inl hk
   have e0:¬Sc w.1.size:=λh=>by have:=hT _ (y.sub _ (y.Yn.2.2 _ h));omega
   have n3:=U.block w.1.size N2.lt e0;have N3:NB E w.1.size N.lvl A n c B G I:=by
    obtain⟨t,h⟩:=N2;exact⟨t,n3.trans h⟩
   have e8:E.cell? ⟨p,40,none⟩=some (.map (some m)):=(World.cell?_of_block (a:=⟨p,40,none⟩) e6).trans y.c40;have t3:Tab E:=(t1.below K t1.1).turned U λh=>hG (y.sub _ (y.Yn.2.2 _ h))
   have d9:w.1.size≠m:=λe=>by have h1:=hT m (y.sub _ y.Yn.2.1);omega
   have hF:∀u,Below E.1.size E u->u.cell? ⟨p,40,none⟩=some (.map (some m))/\u.cell? ⟨w.1.size,0,none⟩=some (.int .i64 N.lvl)/\u.cell? ⟨w.1.size,1,none⟩=some (.slice A n c)/\u.cell? ⟨w.1.size,2,none⟩=some (.slice B G I):=λu hb=>
    have N':=N3.below hb N3.lt;⟨(hb.cell (p:=⟨p,40,none⟩) (by show p<_;omega)).trans e8,N'.c0,N'.c1,N'.c2⟩
   have d6:∀u (o:Obj),Below E.1.size E u->(setBlock u m o).cell? ⟨p,40,none⟩=some (.map (some m))/\(setBlock u m o).cell? ⟨w.1.size,0,none⟩=some (.int .i64 N.lvl)/\(setBlock u m o).cell? ⟨w.1.size,1,none⟩=some (.slice A n c)/\(setBlock u m o).cell? ⟨w.1.size,2,none⟩=some (.slice B G I):=λu o hb=>by
    have hz:=hb.size;have TB:Turn (λk=>k=m) u (setBlock u m o):=q0t _ rfl;obtain⟨h1,h2,h3,h4⟩:=hF u hb;have e1:=TB.block p (by omega) y.p_m;have Z:=TB.block w.1.size (by omega) d9;exact⟨(World.cell?_of_block (a:=⟨p,40,none⟩) e1).trans h1,(World.cell?_of_block (a:=⟨w.1.size,0,none⟩) Z).trans h2,(World.cell?_of_block (a:=⟨w.1.size,1,none⟩) Z).trans h3,(World.cell?_of_block (a:=⟨w.1.size,2,none⟩) Z).trans h4⟩
   have BD:Below E.1.size E E.drew:=(Below.refl _ _).drew;have d3:=Lib.hid (λ(u:World) (hb:Below E.1.size E u) (v':Value)=>(congrArg (λz:Nat=>Result.ok () (setBlock u m (.map (J3 (a:Int) v' clock l).toArray z))) (if_pos J.out)).subst (motive:=λr=>(Instr.mapUpdate 123 (.map (some m)) (.int .i64 (a:Int)) v').run Tryz.prog u=r) (q2h L.ents Tryz.underlying123 Tryz.underlying3 ((hb.block m (by omega)).trans (e5.trans y.map)) (a:Int) v'));have BI:Turn S w E.drew:=B3.drew;go_wp2_with fail
   go_region_held3 (λu=>u.cell? ⟨p,40,none⟩=some (.map (some m))/\u.cell? ⟨w.1.size,0,none⟩=some (.int .i64 N.lvl)/\u.cell? ⟨w.1.size,1,none⟩=some (.slice A n c)/\u.cell? ⟨w.1.size,2,none⟩=some (.slice B G I))
    (first|assumption|exact hF _ BD|exact hF _ Y|exact d6 _ _ Y)
    (first
     |(go_at_call 251;refine (qbr N (a:Int) 0 A n c B G I _ (a7 _ BI).1 (a7 _ BI).2 hn hm (t3.below BD t3.1)).mono ?_;rw[d2.out];rintro e w4 ⟨A3,n3,c3,rfl,R,e4,d8⟩;have Y:Below E.1.size E w4:=BD.trans d8;have f1:=d3.out w4 Y)
     |fail)
   obtain⟨q,rfl,rfl,rfl⟩:=e4 (by first|trivial|rfl);have hq:=(R.block ⟨q,0,none⟩ rfl).1;obtain⟨R1,R2⟩:=y.store (P':=P.lay (.node N)) (b:=.node N) U C3 Y Hn.out HS.out d7 d1.out d0.out b4.out R.sl (λh=>by have h1:=hT q h;have h2:E.drew.1.size=E.1.size:=rfl;have h3:E.drew.1.size<=q:=hq;omega);rw[if_pos J.out] at R1 R2;go_wp2;go_ret2;have BB:=W.trans (K.mono (by omega));have X3:=(Qx (S:=S) BB).trans R2 λk hk=>.inl hk
   exact⟨rfl,R1,X3,ht.turned X3 λh=>hG (y.sub _ h)⟩
section
variable {b:Nat}{w:World}{d p:Nat}{S0 S T:Nat->Prop}{D:DM}{P:Pl}
theorem qbv (H:Qg b w d p S0 S T D P)(G:1<b)(F:Tab w)(N:Nd)(A:Option Addr)(n c:Nat)(B:Option Addr)(m k:Nat)(y:∀f,Turn S w f->Jg f A n c N.items/\Zk f B m k N.kids)(hn:n<=1000)(hm:m<=1000) :
  Calls Tryz.prog 232 #[.pointer (some ⟨p,0,none⟩),.agg #[.int .i64 N.lvl,.slice A n c,.slice B m k]] w λe f=>e=.returned (.tuple #[.int .i64 (P.Yz N),.int .i64 (P.Jk N)])/\Qg b f d p S0 S T D (P.Jj N)/\Turn S w f/\Tab f:=by
 refine (qdk H.pool (λk u=>(H.tight k u).2) (λh=>by have:=(H.tight _ h).1;omega) N A n c B m k y hn hm F).mono ?_;rintro e f ⟨rfl,R,X,t⟩;have I:=X.size;exact⟨rfl,⟨H.Az.keep λk u E=>X.block k u (H.apart k E),R,H.sub,H.apart,λk u=>⟨(H.tight k u).1,by have:=(H.tight k u).2;omega⟩⟩,X,t⟩
end
end
section
variable {b:Nat}{w w1:World}{d p:Nat}{S0 S T:Nat->Prop}{D:DM}{P:Pl}
end
def Rq:DM:=(DM.mk0 256).Qz (Xq 256)
structure Qc3 (b:Nat)(w:World)(d p:Nat)(D:DM)(P:Pl)(root:Int)(its:List Qb):Prop where
 sys:∃S0 S T,Qg b w d p S0 S T D P
 Zx:Wy D P (fmtS 256) (Ct.zero 256)
 tree:Ji (P.store D) root its
 n:P.C.n=256
 S:P.S=fmtS 256
structure Qc2 (w0:World)(d p:Nat)(S0 S:Nat->Prop)(its:List Qb)(f l:Nat)(nv lv:Value)(w:World)(P:Pl)(Ns:List Nd):Prop where
 lvl:Lvl Rq its f l P Ns
 fuel:l+f=5
 Nu:∃L:Nat,L=l+1/\lv=.int .i64 (L:Int)
 rows:∃wl A c,nv=.slice A Ns.length c/\Nk (Turn S wl) w wl.heap.size A Ns.length c Ns/\Turn S wl w/\(∀k,S k->k<wl.heap.size)
 sys:∃T,Qg w0.heap.size w d p S0 S T Rq P
 Zx:Wy Rq P (fmtS 256) (Ct.zero 256)
 tab:Tab w
 low:Below w0.heap.size w0 w
 n:P.C.n=256
 S:P.S=fmtS 256
