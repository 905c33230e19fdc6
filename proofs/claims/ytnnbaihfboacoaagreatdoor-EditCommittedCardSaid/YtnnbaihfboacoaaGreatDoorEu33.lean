/- The code's PutNode, of a node that lies apart from the pool; for a pool and its drive -/
import Derived.Test.YtnnbaihfboacoaaGreatDoorEu32
namespace Go.Proofs.YtnnbaihfboacoaaGreatDoor
open Go Go.RowKit Go.Proofs
set_option maxHeartbeats 8000000
set_option maxRecDepth 100000
section
open Go.ChangeMaps (setBlock)
theorem qee {w:World}{p d:Nat}{S T:Nat->Prop}{P:Pl}(H:Pool w p d S T P)(hT:∀k,T k->k<w.1.size)(hG:¬T 1)(N:Nd)(A:Option Addr)(n c:Nat)(B:Option Addr)(F G:Nat)(b0:∀w',Turn S w w'->Zl w' A n c N.items/\Zm w' B F G N.kids)(hn:n<=1000)(hm:F<=1000)(ht:Tab w) :
  Calls Tryz.prog 140 #[.pointer (some ⟨p,0,none⟩),.agg #[.int .i64 N.lvl,.slice A n c,.slice B F G]] w λe w'=>e=.returned (.tuple #[.int .i64 (P.Xg N),.int .i64 (P.Jq N)])/\Pool w' p d S T (P.Zn N)/\Turn S w w'/\Tab w':=by
 have b5:=H.ok;have N1:NB (w.alloc (.cells #[.int .i64 N.lvl,.slice A n c,.slice B F G] 75)) w.1.size N.lvl A n c B F G:=NB.new w _ _ _ _ _ _ _ _;have Z:Below w.1.size w (w.alloc (.cells #[.int .i64 N.lvl,.slice A n c,.slice B F G] 75)):=Qm;have z1:(w.alloc (.cells #[.int .i64 N.lvl,.slice A n c,.slice B F G] 75)).1.size=w.1.size+1:=by simp
 have a8:=λr hr w' (hw:Turn S w w')=>q2l N r hr A n c B F G w' (b0 w' hw).1 (b0 w' hw).2 hn hm
 have c0:=N1.c0;have c1:=N1.c1;have c2:=N1.c2;have t1:=ht.below Z ht.1;have H1:=H.below Z;have B1:Turn S w (w.alloc (.cells #[.int .i64 N.lvl,.slice A n c,.slice B F G] 75)):=Qv Z
 cases f:N.may with
 |false=>
  have e1:P.Xg N=0:=by unfold Pl.Xg;rw[f];rfl
  have e2:P.Jq N=1:=by unfold Pl.Jq;rw[f];rfl
  have e3:P.Zn N=P:=by unfold Pl.Zn;rw[f];rfl
  rw[e1,e2,e3];have a6:=Lib.hid (a8 false f);clear f e1 e2 e3 a8;go_enter Tryz.func140,Tryz.ntmps140
  go_wp2_with fail
  generalize w.alloc (.cells #[.int .i64 N.lvl,.slice A n c,.slice B F G] 75)=w1 at Z N1 z1 c0 c1 c2 t1 H1 B1 ⊢;refine (a6.out w1 B1).mono ?_;rintro e w2 ⟨rfl,J⟩;go_wp2;go_ret2;have BB:=Z.trans (J.mono (by omega));exact⟨rfl,H.below BB,Qv BB,ht.below BB ht.1⟩
 |true=>
  have b4:=q6r f;have e1:P.Xg N=P.C.Uy:=by unfold Pl.Xg;rw[f];rfl
  have e2:P.Jq N=P.C.Uf:=by unfold Pl.Jq;rw[f];rfl
  have e3:P.Zn N=P.lay (.node N):=by unfold Pl.Zn;rw[f];rfl
  have d1:=λ(a:Nat) (ha:a<=2047)=>q5k f ha q2f
  have a6:=Lib.hid (a8 true f);have d6:=Lib.hid d1;rw[e1,e2,e3];clear f a8 d1 e1 e2 e3;have H0:=H;obtain⟨m,d7,l,clock,v,Sc,L⟩:=H1;have c8:=L.Ie;have c6:=L.mlt
  cases hp:P.C.pick with
  |none=>
   obtain⟨a1,a2,a3⟩:=Ct.Vm hp;have E:=λ(w2:World) (C2:Yt w2 p 36 Sc P.C)=>qc7 C2
   rw[a1,a2,a3] at E;rw[a1,a2,qdx hp];have E:=Lib.hid E;clear a1 a2 a3 hp;go_enter Tryz.func140,Tryz.ntmps140
   go_wp2_with fail
   generalize w.alloc (.cells #[.int .i64 N.lvl,.slice A n c,.slice B F G] 75)=w1 at Z N1 z1 c0 c1 c2 t1 B1 L c8 c6 ⊢;refine (a6.out w1 B1).mono ?_;rintro e w2 ⟨rfl,J⟩;have u:=L.below J;go_wp2_with fail
   refine (E.out w2 u.ct).mono ?_;rintro e y ⟨rfl,C3,Y⟩;go_wp2;go_ret2;have BB:=Z.trans (J.mono (by omega));have X3:Turn S w y:=(Qv (S:=S) BB).trans (Y.mono u.Xu.2.2) λk hk=>.inl hk
   exact⟨rfl,⟨m,d7,l,clock,v,Sc,u.Qbl Y C3 rfl (λ_=>Iff.rfl) b5⟩,X3,ht.turned X3 λh=>hG (u.sub _ h)⟩
  |some a=>
   obtain⟨a1,a2,a3⟩:=Ct.Xv hp;have d9:=(Ct.Xk hp).1;have M:P.C.get (a:Int)=0:=by unfold Ct.get;rw[if_pos (by omega),Int.toNat_natCast];exact (Ct.Xk hp).2.2.1
   have U:Zf (a:Int) l=none:=by rw[L.look a];unfold Pl.live;rw[if_pos M];rfl
   have I:=Lib.hid U;have f2:=b5.c.1;have hS:=qvw (P:=P) (.node N);have c7:=qo1 (P:=P) (.node N);have b3:=qo0 b5 b4.fine;have b7:P.C.alloc=(P.lay (.node N)).C:=by rw[q37 hp]
   have b9:=qt1 hp (.node N);have b8:=qt2 b4 L.good;have E:=λ(w2:World) (C2:Yt w2 p 36 Sc P.C)=>qc7 C2
   rw[a1,a2,b7] at E;rw[a1,a2];obtain⟨c9,e9,_⟩:=d6.out a (by omega);have O:=b4.len (a:=a) (g:=0) (by omega) q2f;have d0:(Bk.node N).out a 0=Jm N (a:Int) 0:=rfl;rw[d0] at O;have d4:=Lib.hid c9;have f1:=Lib.hid O;have E:=Lib.hid E;have d3:=Lib.hid b9;have d2:=Lib.hid b8;have b6:=Lib.hid b3;have HS:=Lib.hid hS;have Hn:=Lib.hid c7;clear a1 a2 a3 hp b7 hS c7 b3 b9 b8 c9 e9 O U M d0;go_enter Tryz.func140,Tryz.ntmps140
   go_wp2_with fail
   generalize w.alloc (.cells #[.int .i64 N.lvl,.slice A n c,.slice B F G] 75)=w1 at Z N1 z1 c0 c1 c2 t1 B1 L c8 c6 ⊢;refine (a6.out w1 B1).mono ?_;rintro e w2 ⟨rfl,J⟩;have u:=L.below J;go_wp2_with fail
   refine (E.out w2 u.ct).mono ?_;rintro e y ⟨rfl,C3,Y⟩;have z2:=J.size;have z3:=Y.size;have N2:=N1.below J (by omega);have e8:=Y.block p u.Ie λh=>(u.ne p h).1 rfl
   have e7:=Y.block m u.mlt λh=>(u.ne m h).2 rfl
   have B3:Turn S w y:=(Qv (S:=S) (Z.trans (J.mono (by omega)))).trans (Y.mono u.Xu.2.2) λk hk=>.inl hk
   have e5:¬Sc w.1.size:=λh=>by have:=hT _ (u.sub _ (u.Xu.2.2 _ h));omega
   have n3:=Y.block w.1.size N2.lt e5;have N3:NB y w.1.size N.lvl A n c B F G:=by
    obtain⟨t,h⟩:=N2;exact⟨t,n3.trans h⟩
   have f0:y.cell? ⟨p,40,none⟩=some (.map (some m)):=(World.cell?_of_block (a:=⟨p,40,none⟩) e8).trans u.c40;have t3:Tab y:=(t1.below J t1.1).turned Y λh=>hG (u.sub _ (u.Xu.2.2 _ h))
   have e4:w.1.size≠m:=λe=>by have h1:=hT m (u.sub _ u.Xu.2.1);omega
   have hF:∀w',Below y.1.size y w'->w'.cell? ⟨p,40,none⟩=some (.map (some m))/\w'.cell? ⟨w.1.size,0,none⟩=some (.int .i64 N.lvl)/\w'.cell? ⟨w.1.size,1,none⟩=some (.slice A n c)/\w'.cell? ⟨w.1.size,2,none⟩=some (.slice B F G):=λw' hb=>
    have N':=N3.below hb N3.lt;⟨(hb.cell (p:=⟨p,40,none⟩) (by show p<_;omega)).trans f0,N'.c0,N'.c1,N'.c2⟩
   have d8:∀w' (o:Obj),Below y.1.size y w'->(setBlock w' m o).cell? ⟨p,40,none⟩=some (.map (some m))/\(setBlock w' m o).cell? ⟨w.1.size,0,none⟩=some (.int .i64 N.lvl)/\(setBlock w' m o).cell? ⟨w.1.size,1,none⟩=some (.slice A n c)/\(setBlock w' m o).cell? ⟨w.1.size,2,none⟩=some (.slice B F G):=λw' o hb=>by
    have hz:=hb.size;have TB:Turn (λk=>k=m) w' (setBlock w' m o):=q0p _ rfl;obtain⟨h1,h2,h3,h4⟩:=hF w' hb;have e1:=TB.block p (by omega) u.p_m;have e2:=TB.block w.1.size (by omega) e4;exact⟨(World.cell?_of_block (a:=⟨p,40,none⟩) e1).trans h1,(World.cell?_of_block (a:=⟨w.1.size,0,none⟩) e2).trans h2,(World.cell?_of_block (a:=⟨w.1.size,1,none⟩) e2).trans h3,(World.cell?_of_block (a:=⟨w.1.size,2,none⟩) e2).trans h4⟩
   have BD:Below y.1.size y y.drew:=(Below.refl _ _).drew;have d5:=Lib.hid (λ(w':World) (hb:Below y.1.size y w') (v':Value)=>(congrArg (λz:Nat=>Result.ok () (setBlock w' m (.map (Jy (a:Int) v' clock l).toArray z))) (if_pos I.out)).subst (motive:=λr=>(Instr.mapUpdate 101 (.map (some m)) (.int .i64 (a:Int)) v').run Tryz.prog w'=r) (q2u L.ents Tryz.underlying101 Tryz.underlying3 ((hb.block m (by omega)).trans (e7.trans u.map)) (a:Int) v'));have BI:Turn S w y.drew:=B3.drew;go_wp2_with fail
   go_region_held3 (λw'=>w'.cell? ⟨p,40,none⟩=some (.map (some m))/\w'.cell? ⟨w.1.size,0,none⟩=some (.int .i64 N.lvl)/\w'.cell? ⟨w.1.size,1,none⟩=some (.slice A n c)/\w'.cell? ⟨w.1.size,2,none⟩=some (.slice B F G))
    (first|assumption|exact hF _ BD|exact hF _ a7|exact d8 _ _ a7)
    (first
     |(go_at_call 168;refine (qcc N (a:Int) 0 A n c B F G _ (b0 _ BI).1 (b0 _ BI).2 hn hm (t3.below BD t3.1)).mono ?_;rw[d4.out];rintro e w4 ⟨A3,n3,c3,rfl,W,e6,e0⟩;have a7:Below y.1.size y w4:=BD.trans e0;have f3:=d5.out w4 a7)
     |fail)
   obtain⟨q,rfl,rfl,rfl⟩:=e6 (by first|trivial|rfl);have hq:=(W.block ⟨q,0,none⟩ rfl).1;obtain⟨R1,R2⟩:=u.store (P':=P.lay (.node N)) (b:=.node N) Y C3 a7 Hn.out HS.out d9 d3.out d2.out b6.out W.sl (λh=>by have h1:=hT q h;have h2:y.drew.1.size=y.1.size:=rfl;have h3:y.drew.1.size<=q:=hq;omega);rw[if_pos I.out] at R1 R2;go_wp2;go_ret2;have BB:=Z.trans (J.mono (by omega));have X3:=(Qv (S:=S) BB).trans R2 λk hk=>.inl hk
   exact⟨rfl,R1,X3,ht.turned X3 λh=>hG (u.sub _ h)⟩
section
variable {b:Nat}{w:World}{d p:Nat}{S0 S T:Nat->Prop}{D:DM}{P:Pl}
theorem qcl (H:Qi b w d p S0 S T D P)(F:1<b)(E:Tab w)(N:Nd)(A:Option Addr)(n c:Nat)(B:Option Addr)(m k:Nat)(u:∀w',Turn S w w'->Zl w' A n c N.items/\Zm w' B m k N.kids)(hn:n<=1000)(hm:m<=1000) :
  Calls Tryz.prog 140 #[.pointer (some ⟨p,0,none⟩),.agg #[.int .i64 N.lvl,.slice A n c,.slice B m k]] w λe w'=>e=.returned (.tuple #[.int .i64 (P.Xg N),.int .i64 (P.Jq N)])/\Qi b w' d p S0 S T D (P.Zn N)/\Turn S w w'/\Tab w':=by
 refine (qee H.pool (λk f=>(H.tight k f).2) (λh=>by have:=(H.tight _ h).1;omega) N A n c B m k u hn hm E).mono ?_;rintro e w' ⟨rfl,R,X,t⟩;have G:=X.size;exact⟨rfl,⟨H.U8.keep λk f y=>X.block k f (H.apart k y),R,H.sub,H.apart,λk f=>⟨(H.tight k f).1,by have:=(H.tight k f).2;omega⟩⟩,X,t⟩
end
end
structure Pl.tidy (P:Pl):Prop where
 kind:∀a b,P.L a=some b->b.kindOk
 laid:∀a:Nat,P.C.fresh (a:Int)=true->∃b,P.L a=some b
section
variable {P:Pl}
theorem qcm {C:Ct}{c:Nat}{x:Int}(h0:C.get (c:Int)≠0){a:Nat}(h:(C.put c x).fresh (a:Int)=true):C.fresh (a:Int)=true:=by
 have f:a<C.n:=by
  obtain⟨n,e,hn⟩:=Ae (q31 h);rw[C.Zi] at hn;omega
 unfold Ct.fresh at h ⊢;rw[q2q C a f] at h;by_cases e:a=c
 ·subst e;rw[if_pos rfl] at h;rw[if_neg h0];split at h
  ·cases h
  ·exact h
 ·rw[if_neg e] at h;exact h
theorem Pl.tidy.Qy (h:P.tidy)(a:Int):Pl.tidy ⟨P.S,P.C.Qy a,P.L⟩:=by
 refine⟨h.kind,λc e=>h.laid c ?_⟩;have e:(P.C.Qy a).fresh (c:Int)=true:=e;unfold Ct.Qy at e;split at e
 ·exact e
 ·rename_i h0;obtain⟨n,rfl,hn⟩:=Ae h0;rw[Int.toNat_natCast] at e;exact qcm h0 e
theorem Pl.tidy.ref (h:P.tidy)(a:Int):Pl.tidy ⟨P.S,P.C.ref a,P.L⟩:=by
 refine⟨h.kind,λc f=>h.laid c ?_⟩;have f:(P.C.ref a).fresh (c:Int)=true:=f;unfold Ct.ref at f;split at f
 ·rename_i u;have h0:P.C.get a≠0:=λe=>by unfold Ct.Y8 at u;rw[if_pos e] at u;cases u
  obtain⟨n,rfl,hn⟩:=Ae h0;rw[Int.toNat_natCast] at f;exact qcm h0 f
 ·exact f
theorem Pl.tidy.set (h:P.tidy)(a:Int)(N:Nd):(P.Vq a N).tidy:=by
 unfold Pl.Vq;split
 ·refine⟨λc x f=>?_,λc u=>?_⟩
  ·have f:upd P.L a.toNat (some (.node N)) c=some x:=f;by_cases e:c=a.toNat
   ·subst e;rw[Aw] at f;obtain rfl:=Option.some.inj f;exact trivial
   ·rw[Ar _ _ e] at f;exact h.kind c x f
  ·show ∃b,upd P.L a.toNat (some (.node N)) c=some b;by_cases e:c=a.toNat
   ·subst e;exact⟨_,Aw _ _ _⟩
   ·rw[Ar _ _ e];exact h.laid c u
 ·exact h
theorem Pl.tidy.put (h:P.tidy)(N:Nd):(P.Zn N).tidy:=by
 unfold Pl.Zn;split
 ·cases u:P.C.pick with
  |none=>rw[qdx u];exact h
  |some a=>
   have F:=(Ct.Xk u).2.2.1;have E:=(Ct.Xk u).1;refine⟨λc x y=>?_,λc f=>?_⟩
   ·rw[qfc u] at y;split at y
    ·obtain rfl:=Option.some.inj y;exact trivial
    ·exact h.kind c x y
   ·rw[qfc u];by_cases e:c=a
    ·exact⟨_,if_pos e⟩
    ·rw[if_neg e];refine h.laid c ?_;rw[q37 u] at f;have f:P.C.alloc.fresh (c:Int)=true:=f;rw[(Ct.Xv u).2.2] at f;have A:c<P.C.n:=by
      obtain⟨n,B,h2⟩:=Ae (q31 f);rw[P.C.Zi] at h2;omega
     unfold Ct.fresh at f ⊢;rw[q2q P.C c A,if_neg e] at f;exact f
 ·exact h
theorem Pl.tidy.leave {P':Pl}{s:Qu}(h:P.tidy)(hl:P.leave s=some P'):P'.tidy:=by
 unfold Pl.leave at hl;split at hl
 ·obtain rfl:=Option.some.inj hl;exact h
 ·split at hl
  ·obtain rfl:=Option.some.inj hl;exact h.Qy _
  ·cases hl
theorem qg9:∀(f:List Int) {P P':Pl},P.tidy->Um f P=some P'->P'.tidy
 |[],P,P',h,e=>by obtain rfl:=Option.some.inj e;exact h
 |a::r,P,P',h,e=>by
  have e:(if P.C.Y8 a=0 then Um r ⟨P.S,P.C.ref a,P.L⟩ else none)=some P':=e;split at e
  ·exact qg9 r (h.ref a) e
  ·cases e
theorem qak:∀(f:List Int) {P P':Pl},P.tidy->q3g f P=some P'->P'.tidy
 |[],P,P',h,e=>by obtain rfl:=Option.some.inj e;exact h
 |a::r,P,P',h,e=>by
  have e:(if P.C.Jz a=0 then q3g r ⟨P.S,P.C.Qy a,P.L⟩ else none)=some P':=e;split at e
  ·exact qak r (h.Qy a) e
  ·cases e
theorem Pl.tidy.Qx {P':Pl}{s:Qu}{i j:Nat}(h:P.tidy)(hl:P.Qx s i j=some P'):P'.tidy:=by
 unfold Pl.Qx at hl;split at hl
 ·exact qg9 _ h hl
 ·split at hl
  ·obtain rfl:=Option.some.inj hl;exact h
  ·exact qak _ h hl
end
section
variable {b:Nat}{w w':World}{d p:Nat}{S0 S T S':Nat->Prop}{D:DM}{P P':Pl}
theorem Qi.grown (H:Qi b w d p S0 S T D P)(t:Turn S' w w')(hT:∀k,S' k->T k)(h0:∀k,S' k->¬S0 k)(h1:∀k,S' k->¬S k):Qi b w' d p S0 S (grow T w w') D P:=by
 have y:=H.base;have u:=H.Cj;have E:=t.size;have f:∀k,T k->grow T w w' k:=λk e=>⟨.inl e,by have:=(H.tight k e).2;omega⟩
 have A:Pool w p d S (grow T w w') P:=H.pool.mono (λk _ h=>h) (λk e h=>h.1.elim id λh=>by omega) λk h=>f k (u k h)
 exact⟨H.U8.keep λk e B=>t.block k e λh=>h0 k h B,A.other t (λk e=>f k (hT k e)) h1,λk e=>f k (H.sub k e),H.apart,λk e=>⟨e.1.elim (λh=>(H.tight k h).1) λh=>by omega,e.2⟩⟩
theorem qme (H:Qi b w d p S0 S T D P)(G:1<b)(y:Tab w)(u:P.tidy)(a:Int)(N:Nd)(A:Option Addr)(n c:Nat)(B:Option Addr)(m f:Nat)(E:Zl w A n c N.items)(F:Zm w B m f N.kids)(hn:n<=1000)(hm:m<=1000) :
  Calls Tryz.prog 145 #[.pointer (some ⟨p,0,none⟩),.int .i64 a,.agg #[.int .i64 N.lvl,.slice A n c,.slice B m f]] w λe w'=>e=.returned (.int .i64 (P.Gw a N))/\Qi b w' d p S0 S T D (P.Vq a N)/\Turn S w w'/\Tab w':=by
 refine (qma H.U8 H.pool u.kind u.laid (λk I=>(H.tight k I).2) (Below.refl _ _) a N A n c B m f E F hn hm y).mono ?_;rintro e w' ⟨rfl,R,X⟩;exact⟨rfl,H.step R X,X,H.tab G y X⟩
end
structure Bf (b:Nat)(w0 w:World)(d p:Nat)(S0 S T T':Nat->Prop)(D:DM)(P:Pl):Prop where
 sys:Qi b w d p S0 S T' D P
 sub:∀k,T k->T' k
 turn:Turn S w0 w
 tab:Tab w
 tidy:P.tidy
 base:1<b
 low:∀k,S0 k\/S k->k<w0.heap.size
 Qap:∀k,S0 k\/S k->T k
section
variable {b:Nat}{w0 w w':World}{d p:Nat}{S0 S T T' S':Nat->Prop}{D:DM}{P P':Pl}
theorem Bf.own (h:Bf b w0 w d p S0 S T T' D P)(t:Turn S' w w')(hS:∀k,S' k->T' k/\w0.1.size<=k):Bf b w0 w' d p S0 S T (grow T' w w') D P:=by
 have u:=t.size;exact⟨h.sys.grown t (λk e=>(hS k e).1) (λk e h0=>by have:=h.low k (.inl h0);have:=(hS k e).2;omega) (λk e h0=>by have:=h.low k (.inr h0);have:=(hS k e).2;omega),
  λk e=>⟨.inl (h.sub k e),by have:=(h.sys.tight k (h.sub k e)).2;omega⟩,h.turn.trans t λk e=>.inr (hS k e).2,h.tab.turned t λf=>by have:=(h.sys.tight _ (hS _ f).1).1;have:=h.base;omega,h.tidy,h.base,h.low,h.Qap⟩
theorem Bf.below (h:Bf b w0 w d p S0 S T T' D P)(hb:Below w.1.size w w'):Bf b w0 w' d p S0 S T (grow T' w w') D P:=h.own (Qv (S:=λ_=>False) hb) λ_ h=>h.elim
theorem Bf.mem (h:Bf b w0 w d p S0 S T T' D P){k:Nat}(hk:T' k)(hz:w.1.size<=w'.1.size):grow T' w w' k:=⟨.inl hk,by have:=(h.sys.tight k hk).2;omega⟩
theorem qtj {k:Nat}(h1:w.1.size<=k)(h2:k<w'.1.size):grow T' w w' k:=⟨.inr h1,h2⟩
theorem Bf.step (h:Bf b w0 w d p S0 S T T' D P)(H:Qi b w' d p S0 S T' D P')(X:Turn S w w')(ht:Tab w')(hP:P'.tidy):Bf b w0 w' d p S0 S T T' D P':=⟨H,h.sub,h.turn.then X,ht,hP,h.base,h.low,h.Qap⟩
theorem Bf.start (H:Qi b w0 d p S0 S T D P)(hb:1<b)(ht:Tab w0)(hP:P.tidy):Bf b w0 w0 d p S0 S T T D P:=⟨H,λ_ h=>h,Turn.refl _ _,ht,hP,hb,λk e=>(H.tight k (e.elim (H.sub k) (H.Cj k))).2,λk e=>e.elim (H.sub k) (H.Cj k)⟩
theorem Bf.done (h:Bf b w0 w d p S0 S T T' D P):Qi b w d p S0 S T D P:=h.sys.less h.sub (λk e=>h.Qap k (.inl e)) λk e=>h.Qap k (.inr e)
theorem Bf.not (h:Bf b w0 w d p S0 S T T' D P){k:Nat}(hk:w0.1.size<=k):¬S k:=λe=>by have:=h.low k (.inr e);omega
end
section
variable {Q:World->Prop}{w w':World}{X:Option Addr}{k kc:Nat}{Ns:List Nd}
theorem q5o {s:Nat}{A:Option Addr}{n c:Nat}{xs:List (List Value)}(h:Jf w s A n c xs){S:Nat->Prop}(T:Turn S w w')(f:∀k,q01 A=some k->¬S k):Jf w' s A n c xs:=h.keep T.size λg o e u=>T.block g u (f g (by rw[e];rfl))
theorem Ac.turned (h:Ac Q w X k kc Ns){S:Nat->Prop}(T:Turn S w w')(hA:∀k,q01 X=some k->¬S k):Ac Q w' X k kc Ns:=by
 obtain⟨e,h1,h2⟩:=h;exact⟨e,q5o h1 T hA,h2⟩
theorem Ac.tail {N:Nd}{g o:Nat}(h:Ac Q w (some ⟨g,o,none⟩) k kc (N::Ns)):∃y,(if kc=1 then (some ⟨g,o,none⟩:Option Addr) else Option.map (λx:Addr=>x.add 3) (some ⟨g,o,none⟩))=some ⟨g,y,none⟩/\Ac Q w (some ⟨g,y,none⟩) (k-1) (kc-1) Ns/\1<=k/\1<=kc:=by
 have B:=h.len;rw[List.length_cons] at B;obtain⟨f,h1,h2,A⟩:=h;have hd:=h1.drop (k:=1) (by omega);have F:=h1.cap;refine⟨if kc=1 then o else o+3,by split<;>rfl,⟨f.drop 1,?_,by rw[List.length_drop,h2,List.length_cons];omega,λj r x u E=>A (j+1) r x (by rw[List.getElem?_drop] at u;rw[show j+1=1+j by omega];exact u) (by rw[List.getElem?_cons_succ];exact E)⟩,by omega,by omega⟩;by_cases e:kc=1
 ·rw[if_pos e] at hd ⊢;exact hd
 ·rw[if_neg e] at hd ⊢;exact hd
theorem Vj.turned {ss:List Qu}(h:Vj Q w X k kc ss){S:Nat->Prop}(T:Turn S w w')(hA:∀k,q01 X=some k->¬S k):Vj Q w' X k kc ss:=by
 obtain⟨e,h1,h2⟩:=h;exact⟨e,q5o h1 T hA,h2⟩
end
theorem q6v {w:World}{base n c:Nat}{A:Option Addr}{ks:List Ql}{o:Oper}{a:Act}{K:Act->World->Prop}{G:Exit->Act->World->Prop}(F x:Operand)
  (J:o.op=.call { callee:=.builtin .append,args:=#[F,x],argTypes:=#[73,73] })
  (M:a.eval F=.slice A n c) (u:Vz w base A n c ks) {B:Option Addr} {d:Nat} (O:a.eval x=.slice B 1 d) {l:Ql} (U:Zm w B 1 d [l]) (hn:n<=1000) (e:base<=w.1.size)
  (h:∀f E w',Vz w' base f (n+1) E (ks++[l])->Turn (λk=>q01 A=some k) w w'->(q01 f=q01 A\/q01 f=some w.1.size)->K (a.put o.dst (.slice f (n+1) E)) w'):Oper.wp Tryz.prog o a w K G:=by
 obtain⟨f,E,w',y,h2,H,I⟩:=qk1 (ty:=o.type) u U (by omega) e;unfold Oper.wp execOp;simp only[J,resolve,invoke,builtin,Sem.run_bind,Sem.run_pure,Result.andThen_ok,List.map_toArray,List.map_cons,List.map_nil,M,O,y];exact h f E w' h2 H I
theorem qpq (w:World)(x:Ql):Zm (w.alloc (.cells x.vs.toArray 81)) (some ⟨w.1.size,0,none⟩) 1 1 [x]:=(q1q w 81 4 x.vs _ rfl rfl).Vs (by omega)
section
variable {s:Qu}{olds:List Qu}{P:Pl}{ks:List Ql}{R:Pl × List Nd × List Ql}{b:Nd}{rest:List Nd}
theorem qal (h:Gu (s::olds) P [] ks=some R):∃P',P.leave s=some P'/\Gu olds P' [] ks=some R:=by
 unfold Gu at h;split at h
 ·rename_i P' e;exact⟨P',e,h⟩
 ·cases h
theorem q48 (f:s.shared=true\/P.C.fresh s.addr=false)(h:Gu (s::olds) P (b::rest) ks=some R):∃P',P.leave s=some P'/\Gu olds P' (b::rest) ks=some R:=by
 unfold Gu at h;rw[if_pos f] at h;split at h
 ·rename_i P' e;exact⟨P',e,h⟩
 ·cases h
theorem qam (h1:s.shared=false)(h2:P.C.fresh s.addr=true)(h:Gu (s::olds) P (b::rest) ks=some R):P.Gw s.addr b=0/\Gu olds (P.Vq s.addr b) rest (ks++[⟨b.least,s.addr⟩])=some R:=by
 unfold Gu at h;rw[if_neg (by rw[h1,h2];simp)] at h;split at h
 ·rename_i e;exact⟨e,h⟩
 ·cases h
theorem qan {R:Pl × Option (List Ql)}(h:Xe (b::rest) P ks=some R):(P.Jq b=0/\Xe rest (P.Zn b) (ks++[⟨b.least,P.Xg b⟩])=some R)\/(P.Jq b=6/\R=(P.Zn b,none)):=by
 unfold Xe at h;split at h
 ·rename_i e;exact .inl ⟨e,h⟩
 ·split at h
  ·rename_i e;exact .inr ⟨e,(Option.some.inj h).symm⟩
  ·cases h
end
theorem qtk {e:List Qu}{j:Nat}(h:j<e.length):e.drop j=Y5 e j::e.drop (j+1):=by
 rw[List.drop_eq_getElem_cons h];unfold Y5;rw[List.getD_eq_getElem?_getD,List.getElem?_eq_getElem h];rfl
theorem qwj {f:List Nd}{j:Nat}(h:j<f.length):f.drop j=U4 f j::f.drop (j+1):=by
 have e:=q5e h;rw[List.getElem?_eq_getElem h] at e;rw[List.drop_eq_getElem_cons h,Option.some.inj e]
structure Rx (w0 w:World)(p:Nat)(V:List Value)(lv:Int)(K:Option Addr)(n c:Nat):Prop where
 t:RB w w0.heap.size [.pointer (some ⟨p,0,none⟩)]
 x:RB w (w0.heap.size+1) V
 r:NB w (w0.heap.size+2) 0 none 0 0 none 0 0
 k:NB w (w0.heap.size+3) lv none 0 0 K n c
theorem Rx.turned {w0 w w':World}{p:Nat}{V:List Value}{lv:Int}{K:Option Addr}{n c:Nat}(h:Rx w0 w p V lv K n c){S:Nat->Prop}(T:Turn S w w')(hS:∀k,S k->k<w0.1.size\/w0.1.size+4<=k):Rx w0 w' p V lv K n c:=
 ⟨h.t.turned T λe=>by have:=hS _ e;omega,h.x.turned T λe=>by have:=hS _ e;omega,h.r.turned T λe=>by have:=hS _ e;omega,h.k.turned T λe=>by have:=hS _ e;omega⟩
structure Ux (b:Nat)(w0 wp w:World)(d p:Nat)(S0 S T:Nat->Prop)(D:DM)(V:List Value)(lv:Int)(P:Pl)(X:Option Addr)(m mc:Nat)(rest:List Nd)(K:Option Addr)(n c:Nat)(ks:List Ql)(T':Nat->Prop):Prop where
 l:Bf b w0 w d p S0 S T T' D P
 o:Rx w0 w p V lv K n c
 row:Ac (Turn S w0) w X m mc rest
 kids:Vz w wp.heap.size K n c ks
 own:∀g,w0.heap.size<=g->g<wp.heap.size->T' g
 Nb:∀g,q01 X=some g->w0.heap.size+4<=g/\g<wp.heap.size
 Qar:∀g,q01 K=some g->T' g
 fit:∀N∈rest,N.fit
section
variable {b:Nat}{w0 wp w w':World}{d p:Nat}{S0 S T T':Nat->Prop}{D:DM}{V:List Value}{lv:Int}{P P':Pl}{X:Option Addr}{m mc:Nat}{rest:List Nd}{K:Option Addr}{n c:Nat}{ks:List Ql}
theorem Ux.next (h:Ux b w0 wp w d p S0 S T D V lv P X m mc rest K n c ks T'){T2:Nat->Prop}(L:Bf b w0 w' d p S0 S T T2 D P')(hT:∀k,T' k->T2 k)(X2:Turn S w w')(hz:w0.1.size+4<=wp.1.size):Ux b w0 wp w' d p S0 S T D V lv P' X m mc rest K n c ks T2:=by
 have f:=h.l.low;refine⟨L,h.o.turned X2 λk u=>.inl (f k (.inr u)),h.row.turned X2 λg e=>h.l.not (by have:=h.Nb g e;omega),h.kids.turned X2 λg e=>h.l.not (by have:=(h.kids.Qa g e).1;omega),λg h1 h2=>hT g (h.own g h1 h2),h.Nb,λg e=>hT g (h.Qar g e),h.fit⟩
theorem Ux.below (h:Ux b w0 wp w d p S0 S T D V lv P X m mc rest K n c ks T')(hb:Below w.1.size w w')(hz:w0.1.size+4<=wp.1.size):Ux b w0 wp w' d p S0 S T D V lv P X m mc rest K n c ks (grow T' w w'):=
 h.next (h.l.below hb) (λ_ e=>h.l.mem e hb.size) (Qv hb) hz
theorem Ux.more (h:Ux b w0 wp w d p S0 S T D V lv P X m mc rest K n c ks T')(hz:w0.1.size+4<=wp.1.size){w5 w6:World}(hb:Below w.1.size w w5){K6:Option Addr}{c6:Nat}{x:Ql}(k6:Vz w6 wp.1.size K6 (n+1) c6 (ks++[x]))(T6:Turn (λg=>q01 K=some g) w5 w6)(hK:q01 K6=q01 K\/q01 K6=some w5.1.size) :
  Ux b w0 wp (w6.setCell ⟨w0.1.size+3,2,none⟩ (.slice K6 (n+1) c6)) d p S0 S T D V lv P X m mc rest K6 (n+1) c6 (ks++[x]) (grow T' w (w6.setCell ⟨w0.1.size+3,2,none⟩ (.slice K6 (n+1) c6))):=by
 have B:Turn (λg=>g=w0.1.size+3) w6 (w6.setCell ⟨w0.1.size+3,2,none⟩ (.slice K6 (n+1) c6)):=Ez (a:=⟨w0.1.size+3,2,none⟩) _ rfl;have E:=h.kids.Qa;have A:=h.own;have W:=h.o.t.lt;have M:=h.o.x.lt;have O:=h.o.r.lt;have U:=h.o.k.lt;have Y:=hb.size;have Z:=T6.size;have s7:=B.size;have F:Turn (λg=>g=w0.1.size+3\/q01 K=some g) w (w6.setCell ⟨w0.1.size+3,2,none⟩ (.slice K6 (n+1) c6)):=
  ((Qv (S:=λg=>g=w0.1.size+3\/q01 K=some g) hb).trans T6 λg f=>.inl (.inr f)).trans B λg f=>.inl (.inl f)
 have y:Turn (λg=>q01 K=some g) w w6:=(Qv (S:=λg=>q01 K=some g) hb).trans T6 λg f=>.inl f
 have H:=h.o.t.turned y (λu=>by have:=(E _ u).1;omega);have I:=h.o.x.turned y (λu=>by have:=(E _ u).1;omega);have G:=h.o.r.turned y (λu=>by have:=(E _ u).1;omega);have J:=h.o.k.turned y (λu=>by have:=(E _ u).1;omega);refine⟨h.l.own F λg f=>f.elim (λe=>⟨A g (by omega) (by omega),by omega⟩) λe=>⟨h.Qar g e,by have:=(E g e).1;omega⟩,
  ⟨H.keep (B.block _ H.lt (by show ¬w0.1.size=w0.1.size+3;omega)),I.keep (B.block _ I.lt (by show ¬w0.1.size+1=w0.1.size+3;omega)),G.keep (B.block _ G.lt (by show ¬w0.1.size+2=w0.1.size+3;omega)),J.set2 _ _ _⟩,
  h.row.turned F λg f u=>by
   have:=h.Nb g f;exact u.elim (λe=>by omega) λe=>by have:=(E g e).1;omega,
  k6.turned B λg f u=>by have u:g=w0.1.size+3:=u;have:=(k6.Qa g f).1;omega,
  λg h1 h2=>h.l.mem (A g h1 h2) (by omega),h.Nb,λg f=>?_,h.fit⟩
 rcases hK with e|e
 ·exact h.l.mem (h.Qar g (e▸f)) (by omega)
 ·rw[e] at f;obtain rfl:=Option.some.inj f;have:=(k6.Qa _ e).2;exact⟨.inr (by omega),by omega⟩
theorem Ux.tail {M:Nd}{g o:Nat}(h:Ux b w0 wp w d p S0 S T D V lv P (some ⟨g,o,none⟩) m mc (M::rest) K n c ks T'):∃f,(if mc=1 then some (⟨g,o,none⟩:Addr) else some ⟨g,o+3,none⟩)=some ⟨g,f,none⟩/\Ux b w0 wp w d p S0 S T D V lv P (some ⟨g,f,none⟩) (m-1) (mc-1) rest K n c ks T':=by
 obtain⟨f,e,y,_,_⟩:=h.row.tail;exact⟨f,e,h.l,h.o,y,h.kids,h.own,h.Nb,h.Qar,λN u=>h.fit N (List.mem_cons_of_mem _ u)⟩
end
section
variable {b:Nat}{w w1:World}{d p:Nat}{S0 S T:Nat->Prop}{D:DM}{P:Pl}
end
def Tq:DM:=(DM.mk0 256).Qk (Xt 256)
structure Fz (b:Nat)(w:World)(d p:Nat)(D:DM)(P:Pl)(root:Int)(its:List Qc):Prop where
 sys:∃S0 S T,Qi b w d p S0 S T D P
 Zt:Kq D P (fmtS 256) (Ct.zero 256)
 tree:Zb (P.store D) root its
 n:P.C.n=256
 S:P.S=fmtS 256
structure Qcv (w0:World)(d p:Nat)(S0 S:Nat->Prop)(its:List Qc)(f l:Nat)(nv lv:Value)(w:World)(P:Pl)(Ns:List Nd):Prop where
 lvl:Lvl Tq its f l P Ns
 fuel:l+f=5
 Oa:∃L:Nat,L=l+1/\lv=.int .i64 (L:Int)
 rows:∃wl A c,nv=.slice A Ns.length c/\Bg (Turn S wl) w wl.heap.size A Ns.length c Ns/\Turn S wl w/\(∀k,S k->k<wl.heap.size)
 sys:∃T,Qi w0.heap.size w d p S0 S T Tq P
 Zt:Kq Tq P (fmtS 256) (Ct.zero 256)
 tab:Tab w
 low:Below w0.heap.size w0 w
 n:P.C.n=256
 S:P.S=fmtS 256
def Yj (vs:List (Int × Nd)):Nd:=(vs.getLast?.map (·.2)).getD Jh
def qel (k:Kd)(N:Nd):List UInt8 × Int:=if Vb N.keys k (N.Za k)=true then ((Qj N.items (N.Za k)).v,0) else ([],10)
theorem qcs (vs:List (Int × Nd))(x:Int × Nd):Yj (vs++[x])=x.2:=by unfold Yj;simp
theorem qct {x:Int × Nd}{vs:List (Int × Nd)}(h:vs≠[]):Yj (x::vs)=Yj vs:=by
 unfold Yj;rw[List.getLast?_cons_of_ne_nil h]
theorem qkk {R:Int->Nd × Int}{k:Kd}:∀{l:Nat} {a:Int},(Jb R k l a).2=0->(Jb R k l a).1≠[]
 |0,a,h=>by
  unfold Jb at h ⊢;split at h
  ·rename_i h1;exact absurd h h1
  ·rename_i h1;rw[if_neg h1];split at h
   ·cases h
   ·rename_i h2;rw[if_neg h2];simp
 |l+1,a,h=>by
  unfold Jb at h ⊢;split at h
  ·rename_i h1;exact absurd h h1
  ·rename_i h1;rw[if_neg h1];split at h
   ·cases h
   ·rename_i h2;rw[if_neg h2];simp
theorem qkl {R:Int->Nd × Int}{k:Kd}:∀(l:Nat) (a:Int),Aj R k l a=if (Jb R k l a).2≠0 then ([],(Jb R k l a).2) else qel k (Yj (Jb R k l a).1)
 |0,a=>by
  by_cases h1:(R a).2=0
  ·by_cases h2:(R a).1.lvl=0
   ·have f:R a=((R a).1,0):=Prod.ext rfl h1;rw[q80 f h2];unfold Aj;rw[if_neg (by simpa using h1),if_neg (by simpa using h2)];rfl
   ·rw[q4x h1 0 (by simpa using h2)];unfold Aj;rw[if_neg (by simpa using h1),if_pos h2];rfl
  ·rw[q3r h1];unfold Aj;rw[if_pos h1,if_pos h1]
 |l+1,a=>by
  by_cases h1:(R a).2=0
  ·by_cases h2:(R a).1.lvl=((l+1:Nat):Int)
   ·have f:R a=((R a).1,0):=Prod.ext rfl h1;rw[q81 f h2];unfold Aj;rw[if_neg (by simpa using h1),if_neg (by simpa using h2),qkl l _];dsimp only;by_cases e:(Jb R k l (Qg (R a).1.kids ((R a).1.Za k)).a).2=0
    ·rw[if_neg (by simpa using e),if_neg (by simpa using e),qct (qkk e)]
    ·rw[if_pos e,if_pos e]
   ·rw[q4x h1 (l+1) h2];unfold Aj;rw[if_neg (by simpa using h1),if_pos h2];rfl
  ·rw[q3r h1];unfold Aj;rw[if_pos h1,if_pos h1]
theorem qgi (R:Int->Nd × Int)(k:Kd)(root:Int):Bl R k root=if (Yh R k root).2≠0 then ([],(Yh R k root).2) else qel k (Yj (Yh R k root).1):=by
 unfold Bl Yh;by_cases h:root=0
 ·rw[if_pos h,if_pos h];rfl
 ·rw[if_neg h,if_neg h,qkl]
theorem qcu {R:Int->Nd × Int}{k:Kd}(hm:∀a,(R a).2=0->(R a).1.may=true):∀{l:Nat} {a:Int},(Jb R k l a).2=0->(Yj (Jb R k l a).1).lvl=0/\(Yj (Jb R k l a).1).may=true
 |0,a,h=>by
  by_cases h1:(R a).2=0
  ·by_cases h2:(R a).1.lvl=0
   ·have e:R a=((R a).1,0):=Prod.ext rfl h1;rw[q80 e h2];exact⟨h2,hm a h1⟩
   ·rw[q4x h1 0 (by simpa using h2)] at h
    cases h
  ·rw[q3r h1] at h;exact absurd h h1
 |l+1,a,h=>by
  by_cases h1:(R a).2=0
  ·by_cases h2:(R a).1.lvl=((l+1:Nat):Int)
   ·have e:R a=((R a).1,0):=Prod.ext rfl h1;rw[q81 e h2] at h ⊢;have:=qcu hm h;rw[qct (qkk h)];exact this
   ·rw[q4x h1 (l+1) h2] at h
    cases h
  ·rw[q3r h1] at h;exact absurd h h1
theorem qcv {R:Int->Nd × Int}{k:Kd}(hm:∀a,(R a).2=0->(R a).1.may=true){root:Int}(h:(Yh R k root).2=0):(Yj (Yh R k root).1).lvl=0/\(Yj (Yh R k root).1).fit/\(Vb (Yj (Yh R k root).1).keys k ((Yj (Yh R k root).1).Za k)=true->(Yj (Yh R k root).1).Za k<(Yj (Yh R k root).1).items.length):=by
 unfold Yh at h ⊢;by_cases h0:root=0
 ·rw[if_pos h0];exact⟨rfl,⟨λ_=>rfl,λ_=>rfl⟩,λh=>by cases h⟩
 ·rw[if_neg h0] at h ⊢;obtain⟨h1,h2⟩:=qcu hm h;have f:=Nj h2;refine⟨h1,f,λh=>?_⟩;unfold Vb at h;rw[Bool.and_eq_true] at h;have e:=of_decide_eq_true h.1;have u:∀N:Nd,N.kids=[]->N.keys.length=N.items.length:=λN y=>by unfold Nd.keys;rw[y];simp
  rw[u _ (f.1 h1)] at e;exact e
def GInv (w0:World)(e:Nat)(vs:List (Int × Nd))(T:Nat->Prop)(w:World):Prop:=
 ∃(lo f:Nat) (A:Option Addr) (n c:Nat) (B:Option Addr) (m d:Nat),NB w e (Yj vs).lvl A n c B m d/\Held w lo f A n c B m d (Yj vs)/\(e<lo\/f<=e)/\w0.1.size<=e/\w0.1.size<=lo/\∀k,T k↔k=e\/(lo<=k/\k<f)
theorem qmk {w:World}{f:Nat}(a:Int)(M:Nd)(A:Option Addr)(n c:Nat)(B:Option Addr)(m d:Nat){l:Int}{E F:Option Addr}{U c0 O J:Nat}(N:NB w f l E U c0 F O J) :
  Calls Tryz.prog 41 #[.int .i64 a,.agg #[.int .i64 M.lvl,.slice A n c,.slice B m d],.pointer (some ⟨f,0,none⟩)] w λe w'=>e=.returned (.tuple #[])/\NB w' f M.lvl A n c B m d/\Turn (λk=>k=f) w w':=by
 have y:Below w.1.size w (w.alloc (.cells #[.int .i64 M.lvl,.slice A n c,.slice B m d] 75)):=Qm;have G:=N.below y N.lt;have u:NB (w.alloc (.cells #[.int .i64 M.lvl,.slice A n c,.slice B m d] 75)) w.1.size M.lvl A n c B m d:=NB.new w _ _ _ _ _ _ _ _;have W:=u.c0;have Y:=u.c1;have Z:=u.c2;go_enter Tryz.func41,Tryz.ntmps41
 go_wp2_with (first
  |(refine Gt rfl (.tmp 2) _ rfl f rfl M.lvl A n c B m d rfl G ?_;intro w2 H I)
  |fail)
 go_end0
 exact⟨rfl,H,(Qv (S:=λk=>k=f) y).trans I λ_ h=>.inl h⟩
theorem qgj {w0:World}{u:Nat}:Visit w0 41 #[.pointer (some ⟨u,0,none⟩)] (GInv w0 u) where
 ent:=λ_ _=>by kernel_rfl
 in_:=λh k y=>by
  obtain⟨lo,E,A,n,c,B,m,d,N,H,h1,h2,F,f⟩:=h;have:=N.lt;have:=H.1;rcases (f k).1 y with rfl|⟨h5,h6⟩
  ·exact⟨h2,N.lt⟩
  ·omega
 keep:=λh t J=>by
  obtain⟨lo,E,A,n,c,B,m,d,N,H,h1,h2,F,f⟩:=h;exact⟨lo,E,A,n,c,B,m,d,N.turned t λh=>J _ h ((f u).2 (.inl rfl)),H.turn t λk a b h=>J _ h ((f k).2 (.inr ⟨a,b⟩)),h1,h2,F,f⟩
 call:=λ{vs T w lo E a M A n c B m d} h O hd I _=>by
  obtain⟨Y,W,Z,n0,c0,B0,m0,d0,N,H,h1,h2,F,f⟩:=h;refine (qmk a M A n c B m d N).mono ?_;rintro e w' ⟨rfl,U,X⟩;have G:¬(lo<=u/\u<E):=λh=>hd u h.1 h.2 ((f u).2 (.inl rfl))
  refine⟨rfl,λk=>k=u\/(lo<=k/\k<E),⟨lo,E,A,n,c,B,m,d,by rw[qcs];exact U,by rw[qcs];exact O.turn X (λk a b h=>G ⟨by rw[<-h];exact a,by rw[<-h];exact b⟩),by omega,h2,I,λ_=>Iff.rfl⟩,X.mono λk y=>(f k).2 (.inl y),λk y=>?_⟩;rcases y with rfl|y
  ·exact .inl ((f k).2 (.inl rfl))
  ·exact .inr (.inr y)
theorem qgk (w:World):Held w w.1.size w.1.size none 0 0 none 0 0 Jh:=
 ⟨Nat.le_refl _,by omega,by omega,λw' _ _=>⟨O8 _ _,qdy _,λj e=>absurd e (Nat.not_lt_zero _)⟩⟩
structure Told (w:World)(p:Nat)(R:Int->Nd × Int)(root:Int)(its:List Qc):Prop where
 src:Src w p R
 tree:Zb R root its
 Qd:Qd its
 len:its.length<=150
section
variable {w:World}{p:Nat}{R:Int->Nd × Int}{root:Int}{its:List Qc}
end
