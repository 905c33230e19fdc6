/- The code's PutNode, of a node that lies apart from the pool; for a pool and its drive -/
import Derived.Test.YtnnbaihfboacoaaGreatDoorEt27
namespace Go.Proofs.YtnnbaihfboacoaaGreatDoor
open Go Go.RowKit Go.Proofs
set_option maxHeartbeats 8000000
set_option maxRecDepth 100000
section
open Go.ChangeMaps (setBlock)
theorem qee {w:World}{p d:Nat}{S T:Nat->Prop}{P:Pl}(H:Pool w p d S T P)(hT:∀k,T k->k<w.1.size)(hG:¬T 1)(N:Nd)(A:Option Addr)(n c:Nat)(B:Option Addr)(F G:Nat)(a8:∀w',Turn S w w'->Zl w' A n c N.items/\Zm w' B F G N.kids)(hn:n<=1000)(hm:F<=1000)(ht:Tab w) :
  Calls Tryz.prog 140 #[.pointer (some ⟨p,0,none⟩),.agg #[.int .i64 N.lvl,.slice A n c,.slice B F G]] w λe w'=>e=.returned (.tuple #[.int .i64 (P.Xg N),.int .i64 (P.Jq N)])/\Pool w' p d S T (P.Zn N)/\Turn S w w'/\Tab w':=by
 have b4:=H.ok;have N1:NB (w.alloc (.cells #[.int .i64 N.lvl,.slice A n c,.slice B F G] 75)) w.1.size N.lvl A n c B F G:=NB.new w _ _ _ _ _ _ _ _;have Y:Below w.1.size w (w.alloc (.cells #[.int .i64 N.lvl,.slice A n c,.slice B F G] 75)):=Qm;have z1:(w.alloc (.cells #[.int .i64 N.lvl,.slice A n c,.slice B F G] 75)).1.size=w.1.size+1:=by simp
 have a6:=λr hr w' (hw:Turn S w w')=>q2l N r hr A n c B F G w' (a8 w' hw).1 (a8 w' hw).2 hn hm
 have c0:=N1.c0;have c1:=N1.c1;have c2:=N1.c2;have t1:=ht.below Y ht.1;have H1:=H.below Y;have B1:Turn S w (w.alloc (.cells #[.int .i64 N.lvl,.slice A n c,.slice B F G] 75)):=Qv Y
 cases f:N.may with
 |false=>
  have e1:P.Xg N=0:=by unfold Pl.Xg;rw[f];rfl
  have e2:P.Jq N=1:=by unfold Pl.Jq;rw[f];rfl
  have e3:P.Zn N=P:=by unfold Pl.Zn;rw[f];rfl
  rw[e1,e2,e3];have a7:=Lib.hid (a6 false f);clear f e1 e2 e3 a6;go_enter Tryz.func140,Tryz.ntmps140
  go_wp2_with fail
  generalize w.alloc (.cells #[.int .i64 N.lvl,.slice A n c,.slice B F G] 75)=w1 at Y N1 z1 c0 c1 c2 t1 H1 B1 ⊢;refine (a7.out w1 B1).mono ?_;rintro e w2 ⟨rfl,I⟩;go_wp2;go_ret2;have BB:=Y.trans (I.mono (by omega));exact⟨rfl,H.below BB,Qv BB,ht.below BB ht.1⟩
 |true=>
  have b5:=q6r f;have e1:P.Xg N=P.C.Uy:=by unfold Pl.Xg;rw[f];rfl
  have e2:P.Jq N=P.C.Uf:=by unfold Pl.Jq;rw[f];rfl
  have e3:P.Zn N=P.lay (.node N):=by unfold Pl.Zn;rw[f];rfl
  have b6:=λ(a:Nat) (ha:a<=2047)=>q5k f ha q2f
  have a7:=Lib.hid (a6 true f);have d8:=Lib.hid b6;rw[e1,e2,e3];clear f a6 b6 e1 e2 e3;have H0:=H;obtain⟨m,e8,l,clock,v,Sc,L⟩:=H1;have c9:=L.Ie;have c6:=L.mlt
  cases hp:P.C.pick with
  |none=>
   obtain⟨a1,a2,a3⟩:=Ct.Vm hp;have E:=λ(w2:World) (C2:Yt w2 p 36 Sc P.C)=>qc7 C2
   rw[a1,a2,a3] at E;rw[a1,a2,qdx hp];have E:=Lib.hid E;clear a1 a2 a3 hp;go_enter Tryz.func140,Tryz.ntmps140
   go_wp2_with fail
   generalize w.alloc (.cells #[.int .i64 N.lvl,.slice A n c,.slice B F G] 75)=w1 at Y N1 z1 c0 c1 c2 t1 B1 L c9 c6 ⊢;refine (a7.out w1 B1).mono ?_;rintro e w2 ⟨rfl,I⟩;have u:=L.below I;go_wp2_with fail
   refine (E.out w2 u.ct).mono ?_;rintro e y ⟨rfl,C3,Z⟩;go_wp2;go_ret2;have BB:=Y.trans (I.mono (by omega));have X3:Turn S w y:=(Qv (S:=S) BB).trans (Z.mono u.Xu.2.2) λk hk=>.inl hk
   exact⟨rfl,⟨m,e8,l,clock,v,Sc,u.Qbl Z C3 rfl (λ_=>Iff.rfl) b4⟩,X3,ht.turned X3 λh=>hG (u.sub _ h)⟩
  |some a=>
   obtain⟨a1,a2,a3⟩:=Ct.Xv hp;have d6:=(Ct.Xk hp).1;have U:P.C.get (a:Int)=0:=by unfold Ct.get;rw[if_pos (by omega),Int.toNat_natCast];exact (Ct.Xk hp).2.2.1
   have M:Zf (a:Int) l=none:=by rw[L.look a];unfold Pl.live;rw[if_pos U];rfl
   have O:=Lib.hid M;have f2:=b4.c.1;have hS:=qvw (P:=P) (.node N);have b7:=qo1 (P:=P) (.node N);have b3:=qo0 b4 b5.fine;have c7:P.C.alloc=(P.lay (.node N)).C:=by rw[q37 hp]
   have b9:=qt1 hp (.node N);have d0:=qt2 b5 L.good;have E:=λ(w2:World) (C2:Yt w2 p 36 Sc P.C)=>qc7 C2
   rw[a1,a2,c7] at E;rw[a1,a2];obtain⟨b8,d9,_⟩:=d8.out a (by omega);have J:=b5.len (a:=a) (g:=0) (by omega) q2f;have c8:(Bk.node N).out a 0=Jm N (a:Int) 0:=rfl;rw[c8] at J;have e9:=Lib.hid b8;have f1:=Lib.hid J;have E:=Lib.hid E;have e0:=Lib.hid b9;have f0:=Lib.hid d0;have d1:=Lib.hid b3;have HS:=Lib.hid hS;have Hn:=Lib.hid b7;clear a1 a2 a3 hp c7 hS b7 b3 b9 d0 b8 d9 J M U c8;go_enter Tryz.func140,Tryz.ntmps140
   go_wp2_with fail
   generalize w.alloc (.cells #[.int .i64 N.lvl,.slice A n c,.slice B F G] 75)=w1 at Y N1 z1 c0 c1 c2 t1 B1 L c9 c6 ⊢;refine (a7.out w1 B1).mono ?_;rintro e w2 ⟨rfl,I⟩;have u:=L.below I;go_wp2_with fail
   refine (E.out w2 u.ct).mono ?_;rintro e y ⟨rfl,C3,Z⟩;have z2:=I.size;have z3:=Z.size;have N2:=N1.below I (by omega);have e7:=Z.block p u.Ie λh=>(u.ne p h).1 rfl
   have e4:=Z.block m u.mlt λh=>(u.ne m h).2 rfl
   have B3:Turn S w y:=(Qv (S:=S) (Y.trans (I.mono (by omega)))).trans (Z.mono u.Xu.2.2) λk hk=>.inl hk
   have e6:¬Sc w.1.size:=λh=>by have:=hT _ (u.sub _ (u.Xu.2.2 _ h));omega
   have n3:=Z.block w.1.size N2.lt e6;have N3:NB y w.1.size N.lvl A n c B F G:=by
    obtain⟨t,h⟩:=N2;exact⟨t,n3.trans h⟩
   have d3:y.cell? ⟨p,40,none⟩=some (.map (some m)):=(World.cell?_of_block (a:=⟨p,40,none⟩) e7).trans u.c40;have t3:Tab y:=(t1.below I t1.1).turned Z λh=>hG (u.sub _ (u.Xu.2.2 _ h))
   have d4:w.1.size≠m:=λe=>by have h1:=hT m (u.sub _ u.Xu.2.1);omega
   have hF:∀w',Below y.1.size y w'->w'.cell? ⟨p,40,none⟩=some (.map (some m))/\w'.cell? ⟨w.1.size,0,none⟩=some (.int .i64 N.lvl)/\w'.cell? ⟨w.1.size,1,none⟩=some (.slice A n c)/\w'.cell? ⟨w.1.size,2,none⟩=some (.slice B F G):=λw' hb=>
    have N':=N3.below hb N3.lt;⟨(hb.cell (p:=⟨p,40,none⟩) (by show p<_;omega)).trans d3,N'.c0,N'.c1,N'.c2⟩
   have e5:∀w' (o:Obj),Below y.1.size y w'->(setBlock w' m o).cell? ⟨p,40,none⟩=some (.map (some m))/\(setBlock w' m o).cell? ⟨w.1.size,0,none⟩=some (.int .i64 N.lvl)/\(setBlock w' m o).cell? ⟨w.1.size,1,none⟩=some (.slice A n c)/\(setBlock w' m o).cell? ⟨w.1.size,2,none⟩=some (.slice B F G):=λw' o hb=>by
    have hz:=hb.size;have TB:Turn (λk=>k=m) w' (setBlock w' m o):=q0p _ rfl;obtain⟨h1,h2,h3,h4⟩:=hF w' hb;have e1:=TB.block p (by omega) u.p_m;have e2:=TB.block w.1.size (by omega) d4;exact⟨(World.cell?_of_block (a:=⟨p,40,none⟩) e1).trans h1,(World.cell?_of_block (a:=⟨w.1.size,0,none⟩) e2).trans h2,(World.cell?_of_block (a:=⟨w.1.size,1,none⟩) e2).trans h3,(World.cell?_of_block (a:=⟨w.1.size,2,none⟩) e2).trans h4⟩
   have BD:Below y.1.size y y.drew:=(Below.refl _ _).drew;have d5:=Lib.hid (λ(w':World) (hb:Below y.1.size y w') (v':Value)=>(congrArg (λz:Nat=>Result.ok () (setBlock w' m (.map (Jy (a:Int) v' clock l).toArray z))) (if_pos O.out)).subst (motive:=λr=>(Instr.mapUpdate 101 (.map (some m)) (.int .i64 (a:Int)) v').run Tryz.prog w'=r) (q2u L.ents Tryz.underlying101 Tryz.underlying3 ((hb.block m (by omega)).trans (e4.trans u.map)) (a:Int) v'));have BI:Turn S w y.drew:=B3.drew;go_wp2_with fail
   go_region_held3 (λw'=>w'.cell? ⟨p,40,none⟩=some (.map (some m))/\w'.cell? ⟨w.1.size,0,none⟩=some (.int .i64 N.lvl)/\w'.cell? ⟨w.1.size,1,none⟩=some (.slice A n c)/\w'.cell? ⟨w.1.size,2,none⟩=some (.slice B F G))
    (first|assumption|exact hF _ BD|exact hF _ b0|exact e5 _ _ b0)
    (first
     |(go_at_call 168;refine (qcc N (a:Int) 0 A n c B F G _ (a8 _ BI).1 (a8 _ BI).2 hn hm (t3.below BD t3.1)).mono ?_;rw[e9.out];rintro e w4 ⟨A3,n3,c3,rfl,W,d2,d7⟩;have b0:Below y.1.size y w4:=BD.trans d7;have f3:=d5.out w4 b0)
     |fail)
   obtain⟨q,rfl,rfl,rfl⟩:=d2 (by first|trivial|rfl);have hq:=(W.block ⟨q,0,none⟩ rfl).1;obtain⟨R1,R2⟩:=u.store (P':=P.lay (.node N)) (b:=.node N) Z C3 b0 Hn.out HS.out d6 e0.out f0.out d1.out W.sl (λh=>by have h1:=hT q h;have h2:y.drew.1.size=y.1.size:=rfl;have h3:y.drew.1.size<=q:=hq;omega);rw[if_pos O.out] at R1 R2;go_wp2;go_ret2;have BB:=Y.trans (I.mono (by omega));have X3:=(Qv (S:=S) BB).trans R2 λk hk=>.inl hk
   exact⟨rfl,R1,X3,ht.turned X3 λh=>hG (u.sub _ h)⟩
section
variable {b:Nat}{w:World}{d p:Nat}{S0 S T:Nat->Prop}{D:DM}{P:Pl}
theorem qcl (H:Qi b w d p S0 S T D P)(F:1<b)(y:Tab w)(N:Nd)(A:Option Addr)(n c:Nat)(B:Option Addr)(m k:Nat)(u:∀w',Turn S w w'->Zl w' A n c N.items/\Zm w' B m k N.kids)(hn:n<=1000)(hm:m<=1000) :
  Calls Tryz.prog 140 #[.pointer (some ⟨p,0,none⟩),.agg #[.int .i64 N.lvl,.slice A n c,.slice B m k]] w λe w'=>e=.returned (.tuple #[.int .i64 (P.Xg N),.int .i64 (P.Jq N)])/\Qi b w' d p S0 S T D (P.Zn N)/\Turn S w w'/\Tab w':=by
 refine (qee H.pool (λk f=>(H.tight k f).2) (λh=>by have:=(H.tight _ h).1;omega) N A n c B m k u hn hm y).mono ?_;rintro e w' ⟨rfl,R,X,t⟩;have G:=X.size;exact⟨rfl,⟨H.U8.keep λk f E=>X.block k f (H.apart k E),R,H.sub,H.apart,λk f=>⟨(H.tight k f).1,by have:=(H.tight k f).2;omega⟩⟩,X,t⟩
end
end
structure Pl.tidy (P:Pl):Prop where
 kind:∀a b,P.L a=some b->b.kindOk
 laid:∀a:Nat,P.C.fresh (a:Int)=true->∃b,P.L a=some b
section
variable {P:Pl}
theorem qcm {C:Ct}{c:Nat}{x:Int}(h0:C.get (c:Int)≠0){a:Nat}(h:(C.put c x).fresh (a:Int)=true):C.fresh (a:Int)=true:=by
 have f:a<C.n:=by
  obtain⟨n,e,hn⟩:=Ae (q31 h);rw[C.Zi] at hn;omega
 unfold Ct.fresh at h ⊢;rw[q2q C a f] at h;by_cases e:a=c
 ·subst e;rw[if_pos rfl] at h;rw[if_neg h0];split at h
  ·cases h
  ·exact h
 ·rw[if_neg e] at h;exact h
theorem Pl.tidy.Qy (h:P.tidy)(a:Int):Pl.tidy ⟨P.S,P.C.Qy a,P.L⟩:=by
 refine⟨h.kind,λc e=>h.laid c ?_⟩;have e:(P.C.Qy a).fresh (c:Int)=true:=e;unfold Ct.Qy at e;split at e
 ·exact e
 ·rename_i h0;obtain⟨n,rfl,hn⟩:=Ae h0;rw[Int.toNat_natCast] at e;exact qcm h0 e
theorem Pl.tidy.ref (h:P.tidy)(a:Int):Pl.tidy ⟨P.S,P.C.ref a,P.L⟩:=by
 refine⟨h.kind,λc f=>h.laid c ?_⟩;have f:(P.C.ref a).fresh (c:Int)=true:=f;unfold Ct.ref at f;split at f
 ·rename_i u;have h0:P.C.get a≠0:=λe=>by unfold Ct.Y8 at u;rw[if_pos e] at u;cases u
  obtain⟨n,rfl,hn⟩:=Ae h0;rw[Int.toNat_natCast] at f;exact qcm h0 f
 ·exact f
theorem Pl.tidy.set (h:P.tidy)(a:Int)(N:Nd):(P.Vq a N).tidy:=by
 unfold Pl.Vq;split
 ·refine⟨λc x f=>?_,λc u=>?_⟩
  ·have f:upd P.L a.toNat (some (.node N)) c=some x:=f;by_cases e:c=a.toNat
   ·subst e;rw[Aw] at f;obtain rfl:=Option.some.inj f;exact trivial
   ·rw[Ar _ _ e] at f;exact h.kind c x f
  ·show ∃b,upd P.L a.toNat (some (.node N)) c=some b;by_cases e:c=a.toNat
   ·subst e;exact⟨_,Aw _ _ _⟩
   ·rw[Ar _ _ e];exact h.laid c u
 ·exact h
theorem Pl.tidy.put (h:P.tidy)(N:Nd):(P.Zn N).tidy:=by
 unfold Pl.Zn;split
 ·cases u:P.C.pick with
  |none=>rw[qdx u];exact h
  |some a=>
   have B:=(Ct.Xk u).2.2.1;have E:=(Ct.Xk u).1;refine⟨λc x y=>?_,λc f=>?_⟩
   ·rw[qfc u] at y;split at y
    ·obtain rfl:=Option.some.inj y;exact trivial
    ·exact h.kind c x y
   ·rw[qfc u];by_cases e:c=a
    ·exact⟨_,if_pos e⟩
    ·rw[if_neg e];refine h.laid c ?_;rw[q37 u] at f;have f:P.C.alloc.fresh (c:Int)=true:=f;rw[(Ct.Xv u).2.2] at f;have A:c<P.C.n:=by
      obtain⟨n,F,h2⟩:=Ae (q31 f);rw[P.C.Zi] at h2;omega
     unfold Ct.fresh at f ⊢;rw[q2q P.C c A,if_neg e] at f;exact f
 ·exact h
theorem Pl.tidy.leave {P':Pl}{s:Qu}(h:P.tidy)(hl:P.leave s=some P'):P'.tidy:=by
 unfold Pl.leave at hl;split at hl
 ·obtain rfl:=Option.some.inj hl;exact h
 ·split at hl
  ·obtain rfl:=Option.some.inj hl;exact h.Qy _
  ·cases hl
theorem qg9:∀(f:List Int) {P P':Pl},P.tidy->Um f P=some P'->P'.tidy
 |[],P,P',h,e=>by obtain rfl:=Option.some.inj e;exact h
 |a::r,P,P',h,e=>by
  have e:(if P.C.Y8 a=0 then Um r ⟨P.S,P.C.ref a,P.L⟩ else none)=some P':=e;split at e
  ·exact qg9 r (h.ref a) e
  ·cases e
theorem qak:∀(f:List Int) {P P':Pl},P.tidy->q3g f P=some P'->P'.tidy
 |[],P,P',h,e=>by obtain rfl:=Option.some.inj e;exact h
 |a::r,P,P',h,e=>by
  have e:(if P.C.Jz a=0 then q3g r ⟨P.S,P.C.Qy a,P.L⟩ else none)=some P':=e;split at e
  ·exact qak r (h.Qy a) e
  ·cases e
theorem Pl.tidy.Qx {P':Pl}{s:Qu}{i j:Nat}(h:P.tidy)(hl:P.Qx s i j=some P'):P'.tidy:=by
 unfold Pl.Qx at hl;split at hl
 ·exact qg9 _ h hl
 ·split at hl
  ·obtain rfl:=Option.some.inj hl;exact h
  ·exact qak _ h hl
end
section
variable {b:Nat}{w w':World}{d p:Nat}{S0 S T S':Nat->Prop}{D:DM}{P P':Pl}
theorem Qi.grown (H:Qi b w d p S0 S T D P)(t:Turn S' w w')(hT:∀k,S' k->T k)(h0:∀k,S' k->¬S0 k)(h1:∀k,S' k->¬S k):Qi b w' d p S0 S (grow T w w') D P:=by
 have y:=H.base;have u:=H.Cj;have E:=t.size;have f:∀k,T k->grow T w w' k:=λk e=>⟨.inl e,by have:=(H.tight k e).2;omega⟩
 have A:Pool w p d S (grow T w w') P:=H.pool.mono (λk _ h=>h) (λk e h=>h.1.elim id λh=>by omega) λk h=>f k (u k h)
 exact⟨H.U8.keep λk e B=>t.block k e λh=>h0 k h B,A.other t (λk e=>f k (hT k e)) h1,λk e=>f k (H.sub k e),H.apart,λk e=>⟨e.1.elim (λh=>(H.tight k h).1) λh=>by omega,e.2⟩⟩
theorem qme (H:Qi b w d p S0 S T D P)(G:1<b)(u:Tab w)(y:P.tidy)(a:Int)(N:Nd)(A:Option Addr)(n c:Nat)(B:Option Addr)(m f:Nat)(F:Zl w A n c N.items)(I:Zm w B m f N.kids)(hn:n<=1000)(hm:m<=1000) :
  Calls Tryz.prog 145 #[.pointer (some ⟨p,0,none⟩),.int .i64 a,.agg #[.int .i64 N.lvl,.slice A n c,.slice B m f]] w λe w'=>e=.returned (.int .i64 (P.Gw a N))/\Qi b w' d p S0 S T D (P.Vq a N)/\Turn S w w'/\Tab w':=by
 refine (qma H.U8 H.pool y.kind y.laid (λk E=>(H.tight k E).2) (Below.refl _ _) a N A n c B m f F I hn hm u).mono ?_;rintro e w' ⟨rfl,R,X⟩;exact⟨rfl,H.step R X,X,H.tab G u X⟩
end
structure Bf (b:Nat)(w0 w:World)(d p:Nat)(S0 S T T':Nat->Prop)(D:DM)(P:Pl):Prop where
 sys:Qi b w d p S0 S T' D P
 sub:∀k,T k->T' k
 turn:Turn S w0 w
 tab:Tab w
 tidy:P.tidy
 base:1<b
 low:∀k,S0 k\/S k->k<w0.heap.size
 Qap:∀k,S0 k\/S k->T k
section
variable {b:Nat}{w0 w w':World}{d p:Nat}{S0 S T T' S':Nat->Prop}{D:DM}{P P':Pl}
theorem Bf.own (h:Bf b w0 w d p S0 S T T' D P)(t:Turn S' w w')(hS:∀k,S' k->T' k/\w0.1.size<=k):Bf b w0 w' d p S0 S T (grow T' w w') D P:=by
 have u:=t.size;exact⟨h.sys.grown t (λk e=>(hS k e).1) (λk e h0=>by have:=h.low k (.inl h0);have:=(hS k e).2;omega) (λk e h0=>by have:=h.low k (.inr h0);have:=(hS k e).2;omega),
  λk e=>⟨.inl (h.sub k e),by have:=(h.sys.tight k (h.sub k e)).2;omega⟩,h.turn.trans t λk e=>.inr (hS k e).2,h.tab.turned t λf=>by have:=(h.sys.tight _ (hS _ f).1).1;have:=h.base;omega,h.tidy,h.base,h.low,h.Qap⟩
theorem Bf.below (h:Bf b w0 w d p S0 S T T' D P)(hb:Below w.1.size w w'):Bf b w0 w' d p S0 S T (grow T' w w') D P:=h.own (Qv (S:=λ_=>False) hb) λ_ h=>h.elim
theorem Bf.mem (h:Bf b w0 w d p S0 S T T' D P){k:Nat}(hk:T' k)(hz:w.1.size<=w'.1.size):grow T' w w' k:=⟨.inl hk,by have:=(h.sys.tight k hk).2;omega⟩
theorem qtj {k:Nat}(h1:w.1.size<=k)(h2:k<w'.1.size):grow T' w w' k:=⟨.inr h1,h2⟩
theorem Bf.step (h:Bf b w0 w d p S0 S T T' D P)(H:Qi b w' d p S0 S T' D P')(X:Turn S w w')(ht:Tab w')(hP:P'.tidy):Bf b w0 w' d p S0 S T T' D P':=⟨H,h.sub,h.turn.then X,ht,hP,h.base,h.low,h.Qap⟩
theorem Bf.start (H:Qi b w0 d p S0 S T D P)(hb:1<b)(ht:Tab w0)(hP:P.tidy):Bf b w0 w0 d p S0 S T T D P:=⟨H,λ_ h=>h,Turn.refl _ _,ht,hP,hb,λk e=>(H.tight k (e.elim (H.sub k) (H.Cj k))).2,λk e=>e.elim (H.sub k) (H.Cj k)⟩
theorem Bf.done (h:Bf b w0 w d p S0 S T T' D P):Qi b w d p S0 S T D P:=h.sys.less h.sub (λk e=>h.Qap k (.inl e)) λk e=>h.Qap k (.inr e)
theorem Bf.not (h:Bf b w0 w d p S0 S T T' D P){k:Nat}(hk:w0.1.size<=k):¬S k:=λe=>by have:=h.low k (.inr e);omega
end
section
variable {Q:World->Prop}{w w':World}{X:Option Addr}{k kc:Nat}{Ns:List Nd}
theorem q5o {s:Nat}{A:Option Addr}{n c:Nat}{xs:List (List Value)}(h:Jf w s A n c xs){S:Nat->Prop}(T:Turn S w w')(f:∀k,q01 A=some k->¬S k):Jf w' s A n c xs:=h.keep T.size λg o e u=>T.block g u (f g (by rw[e];rfl))
theorem Ac.turned (h:Ac Q w X k kc Ns){S:Nat->Prop}(T:Turn S w w')(hA:∀k,q01 X=some k->¬S k):Ac Q w' X k kc Ns:=by
 obtain⟨e,h1,h2⟩:=h;exact⟨e,q5o h1 T hA,h2⟩
theorem Ac.tail {N:Nd}{g o:Nat}(h:Ac Q w (some ⟨g,o,none⟩) k kc (N::Ns)):∃y,(if kc=1 then (some ⟨g,o,none⟩:Option Addr) else Option.map (λx:Addr=>x.add 3) (some ⟨g,o,none⟩))=some ⟨g,y,none⟩/\Ac Q w (some ⟨g,y,none⟩) (k-1) (kc-1) Ns/\1<=k/\1<=kc:=by
 have A:=h.len;rw[List.length_cons] at A;obtain⟨f,h1,h2,E⟩:=h;have hd:=h1.drop (k:=1) (by omega);have F:=h1.cap;refine⟨if kc=1 then o else o+3,by split<;>rfl,⟨f.drop 1,?_,by rw[List.length_drop,h2,List.length_cons];omega,λj r x u B=>E (j+1) r x (by rw[List.getElem?_drop] at u;rw[show j+1=1+j by omega];exact u) (by rw[List.getElem?_cons_succ];exact B)⟩,by omega,by omega⟩;by_cases e:kc=1
 ·rw[if_pos e] at hd ⊢;exact hd
 ·rw[if_neg e] at hd ⊢;exact hd
theorem Vj.turned {ss:List Qu}(h:Vj Q w X k kc ss){S:Nat->Prop}(T:Turn S w w')(hA:∀k,q01 X=some k->¬S k):Vj Q w' X k kc ss:=by
 obtain⟨e,h1,h2⟩:=h;exact⟨e,q5o h1 T hA,h2⟩
end
theorem q6v {w:World}{base n c:Nat}{A:Option Addr}{ks:List Ql}{o:Oper}{a:Act}{K:Act->World->Prop}{O:Exit->Act->World->Prop}(F x:Operand)
  (M:o.op=.call { callee:=.builtin .append,args:=#[F,x],argTypes:=#[73,73] })
  (I:a.eval F=.slice A n c) (u:Vz w base A n c ks) {B:Option Addr} {d:Nat} (G:a.eval x=.slice B 1 d) {l:Ql} (H:Zm w B 1 d [l]) (hn:n<=1000) (e:base<=w.1.size)
  (h:∀f E w',Vz w' base f (n+1) E (ks++[l])->Turn (λk=>q01 A=some k) w w'->(q01 f=q01 A\/q01 f=some w.1.size)->K (a.put o.dst (.slice f (n+1) E)) w'):Oper.wp Tryz.prog o a w K O:=by
 obtain⟨f,E,w',y,h2,J,U⟩:=qk1 (ty:=o.type) u H (by omega) e;unfold Oper.wp execOp;simp only[M,resolve,invoke,builtin,Sem.run_bind,Sem.run_pure,Result.andThen_ok,List.map_toArray,List.map_cons,List.map_nil,I,G,y];exact h f E w' h2 J U
theorem qpq (w:World)(x:Ql):Zm (w.alloc (.cells x.vs.toArray 81)) (some ⟨w.1.size,0,none⟩) 1 1 [x]:=(q1q w 81 4 x.vs _ rfl rfl).Vs (by omega)
section
variable {s:Qu}{olds:List Qu}{P:Pl}{ks:List Ql}{R:Pl × List Nd × List Ql}{b:Nd}{rest:List Nd}
theorem qal (h:Gu (s::olds) P [] ks=some R):∃P',P.leave s=some P'/\Gu olds P' [] ks=some R:=by
 unfold Gu at h;split at h
 ·rename_i P' e;exact⟨P',e,h⟩
 ·cases h
theorem q48 (f:s.shared=true\/P.C.fresh s.addr=false)(h:Gu (s::olds) P (b::rest) ks=some R):∃P',P.leave s=some P'/\Gu olds P' (b::rest) ks=some R:=by
 unfold Gu at h;rw[if_pos f] at h;split at h
 ·rename_i P' e;exact⟨P',e,h⟩
 ·cases h
theorem qam (h1:s.shared=false)(h2:P.C.fresh s.addr=true)(h:Gu (s::olds) P (b::rest) ks=some R):P.Gw s.addr b=0/\Gu olds (P.Vq s.addr b) rest (ks++[⟨b.least,s.addr⟩])=some R:=by
 unfold Gu at h;rw[if_neg (by rw[h1,h2];simp)] at h;split at h
 ·rename_i e;exact⟨e,h⟩
 ·cases h
theorem qan {R:Pl × Option (List Ql)}(h:Xe (b::rest) P ks=some R):(P.Jq b=0/\Xe rest (P.Zn b) (ks++[⟨b.least,P.Xg b⟩])=some R)\/(P.Jq b=6/\R=(P.Zn b,none)):=by
 unfold Xe at h;split at h
 ·rename_i e;exact .inl ⟨e,h⟩
 ·split at h
  ·rename_i e;exact .inr ⟨e,(Option.some.inj h).symm⟩
  ·cases h
end
theorem qtk {e:List Qu}{j:Nat}(h:j<e.length):e.drop j=Y5 e j::e.drop (j+1):=by
 rw[List.drop_eq_getElem_cons h];unfold Y5;rw[List.getD_eq_getElem?_getD,List.getElem?_eq_getElem h];rfl
theorem qwj {f:List Nd}{j:Nat}(h:j<f.length):f.drop j=U4 f j::f.drop (j+1):=by
 have e:=q5e h;rw[List.getElem?_eq_getElem h] at e;rw[List.drop_eq_getElem_cons h,Option.some.inj e]
structure Rx (w0 w:World)(p:Nat)(V:List Value)(lv:Int)(K:Option Addr)(n c:Nat):Prop where
 t:RB w w0.heap.size [.pointer (some ⟨p,0,none⟩)]
 x:RB w (w0.heap.size+1) V
 r:NB w (w0.heap.size+2) 0 none 0 0 none 0 0
 k:NB w (w0.heap.size+3) lv none 0 0 K n c
theorem Rx.turned {w0 w w':World}{p:Nat}{V:List Value}{lv:Int}{K:Option Addr}{n c:Nat}(h:Rx w0 w p V lv K n c){S:Nat->Prop}(T:Turn S w w')(hS:∀k,S k->k<w0.1.size\/w0.1.size+4<=k):Rx w0 w' p V lv K n c:=
 ⟨h.t.turned T λe=>by have:=hS _ e;omega,h.x.turned T λe=>by have:=hS _ e;omega,h.r.turned T λe=>by have:=hS _ e;omega,h.k.turned T λe=>by have:=hS _ e;omega⟩
structure Ux (b:Nat)(w0 wp w:World)(d p:Nat)(S0 S T:Nat->Prop)(D:DM)(V:List Value)(lv:Int)(P:Pl)(X:Option Addr)(m mc:Nat)(rest:List Nd)(K:Option Addr)(n c:Nat)(ks:List Ql)(T':Nat->Prop):Prop where
 l:Bf b w0 w d p S0 S T T' D P
 o:Rx w0 w p V lv K n c
 row:Ac (Turn S w0) w X m mc rest
 kids:Vz w wp.heap.size K n c ks
 own:∀g,w0.heap.size<=g->g<wp.heap.size->T' g
 Nb:∀g,q01 X=some g->w0.heap.size+4<=g/\g<wp.heap.size
 Qar:∀g,q01 K=some g->T' g
 fit:∀N∈rest,N.fit
section
variable {b:Nat}{w0 wp w w':World}{d p:Nat}{S0 S T T':Nat->Prop}{D:DM}{V:List Value}{lv:Int}{P P':Pl}{X:Option Addr}{m mc:Nat}{rest:List Nd}{K:Option Addr}{n c:Nat}{ks:List Ql}
theorem Ux.next (h:Ux b w0 wp w d p S0 S T D V lv P X m mc rest K n c ks T'){T2:Nat->Prop}(L:Bf b w0 w' d p S0 S T T2 D P')(hT:∀k,T' k->T2 k)(X2:Turn S w w')(hz:w0.1.size+4<=wp.1.size):Ux b w0 wp w' d p S0 S T D V lv P' X m mc rest K n c ks T2:=by
 have f:=h.l.low;refine⟨L,h.o.turned X2 λk u=>.inl (f k (.inr u)),h.row.turned X2 λg e=>h.l.not (by have:=h.Nb g e;omega),h.kids.turned X2 λg e=>h.l.not (by have:=(h.kids.Qa g e).1;omega),λg h1 h2=>hT g (h.own g h1 h2),h.Nb,λg e=>hT g (h.Qar g e),h.fit⟩
theorem Ux.below (h:Ux b w0 wp w d p S0 S T D V lv P X m mc rest K n c ks T')(hb:Below w.1.size w w')(hz:w0.1.size+4<=wp.1.size):Ux b w0 wp w' d p S0 S T D V lv P X m mc rest K n c ks (grow T' w w'):=
 h.next (h.l.below hb) (λ_ e=>h.l.mem e hb.size) (Qv hb) hz
theorem Ux.more (h:Ux b w0 wp w d p S0 S T D V lv P X m mc rest K n c ks T')(hz:w0.1.size+4<=wp.1.size){w5 w6:World}(hb:Below w.1.size w w5){K6:Option Addr}{c6:Nat}{x:Ql}(k6:Vz w6 wp.1.size K6 (n+1) c6 (ks++[x]))(T6:Turn (λg=>q01 K=some g) w5 w6)(hK:q01 K6=q01 K\/q01 K6=some w5.1.size) :
  Ux b w0 wp (w6.setCell ⟨w0.1.size+3,2,none⟩ (.slice K6 (n+1) c6)) d p S0 S T D V lv P X m mc rest K6 (n+1) c6 (ks++[x]) (grow T' w (w6.setCell ⟨w0.1.size+3,2,none⟩ (.slice K6 (n+1) c6))):=by
 have E:Turn (λg=>g=w0.1.size+3) w6 (w6.setCell ⟨w0.1.size+3,2,none⟩ (.slice K6 (n+1) c6)):=Ez (a:=⟨w0.1.size+3,2,none⟩) _ rfl;have B:=h.kids.Qa;have A:=h.own;have W:=h.o.t.lt;have M:=h.o.x.lt;have o2:=h.o.r.lt;have Y:=h.o.k.lt;have O:=hb.size;have U:=T6.size;have Z:=E.size;have F:Turn (λg=>g=w0.1.size+3\/q01 K=some g) w (w6.setCell ⟨w0.1.size+3,2,none⟩ (.slice K6 (n+1) c6)):=
  ((Qv (S:=λg=>g=w0.1.size+3\/q01 K=some g) hb).trans T6 λg f=>.inl (.inr f)).trans E λg f=>.inl (.inl f)
 have y:Turn (λg=>q01 K=some g) w w6:=(Qv (S:=λg=>q01 K=some g) hb).trans T6 λg f=>.inl f
 have I:=h.o.t.turned y (λu=>by have:=(B _ u).1;omega);have H:=h.o.x.turned y (λu=>by have:=(B _ u).1;omega);have G:=h.o.r.turned y (λu=>by have:=(B _ u).1;omega);have J:=h.o.k.turned y (λu=>by have:=(B _ u).1;omega);refine⟨h.l.own F λg f=>f.elim (λe=>⟨A g (by omega) (by omega),by omega⟩) λe=>⟨h.Qar g e,by have:=(B g e).1;omega⟩,
  ⟨I.keep (E.block _ I.lt (by show ¬w0.1.size=w0.1.size+3;omega)),H.keep (E.block _ H.lt (by show ¬w0.1.size+1=w0.1.size+3;omega)),G.keep (E.block _ G.lt (by show ¬w0.1.size+2=w0.1.size+3;omega)),J.set2 _ _ _⟩,
  h.row.turned F λg f u=>by
   have:=h.Nb g f;exact u.elim (λe=>by omega) λe=>by have:=(B g e).1;omega,
  k6.turned E λg f u=>by have u:g=w0.1.size+3:=u;have:=(k6.Qa g f).1;omega,
  λg h1 h2=>h.l.mem (A g h1 h2) (by omega),h.Nb,λg f=>?_,h.fit⟩
 rcases hK with e|e
 ·exact h.l.mem (h.Qar g (e▸f)) (by omega)
 ·rw[e] at f;obtain rfl:=Option.some.inj f;have:=(k6.Qa _ e).2;exact⟨.inr (by omega),by omega⟩
theorem Ux.tail {M:Nd}{g o:Nat}(h:Ux b w0 wp w d p S0 S T D V lv P (some ⟨g,o,none⟩) m mc (M::rest) K n c ks T'):∃f,(if mc=1 then some (⟨g,o,none⟩:Addr) else some ⟨g,o+3,none⟩)=some ⟨g,f,none⟩/\Ux b w0 wp w d p S0 S T D V lv P (some ⟨g,f,none⟩) (m-1) (mc-1) rest K n c ks T':=by
 obtain⟨f,e,u,_,_⟩:=h.row.tail;exact⟨f,e,h.l,h.o,u,h.kids,h.own,h.Nb,h.Qar,λN y=>h.fit N (List.mem_cons_of_mem _ y)⟩
end
section
variable {b:Nat}{w:World}{d p:Nat}{S0 S T:Nat->Prop}{D:DM}{P P':Pl}
def Qaa (r:Option (List Ql)):Int:=match r with
 |some _=>0
 |none=>6
theorem qk9 (H:Qi b w d p S0 S T D P)(hb:1<b)(ht:Tab w)(hP:P.tidy)(x:Px)(A:Option Addr)(n c:Nat)(B:Option Addr)(m dd:Nat)(hB:Jl (Turn S w) x.N A n c B m dd)(b7:x.N.fit)(e8:x.N.size<=40)(hl:0<=x.N.lvl/\x.N.lvl<8)
  (Y:Option Addr) (k kc:Nat) (hY:∀u,Turn S w u->Vj (Turn S w) u Y k kc x.olds) (hk:k<=10) {r:Option (List Ql)} (a1:P.Y7 x=some (P',r)) (i j:Int) :
  Calls Tryz.prog 111 #[tv p,.agg (Xl x.N.lvl A n c B m dd Y k kc i j).toArray] w λe w'=>∃A n c B m dd l,e=.returned (.tuple #[Xy l A n c B m dd,.int .i64 (Qaa r)])/\(∀ks,r=some ks->l=x.N.lvl+1/\Jl (Turn S w') ⟨x.N.lvl+1,[],ks⟩ A n c B m dd)/\Qi b w' d p S0 S T D P'/\Turn S w w'/\Tab w'/\P'.tidy:=by
 obtain⟨N,olds,xi,xj⟩:=x;dsimp only at hB b7 e8 hl hY a1 ⊢;obtain⟨lv,d3⟩:∃lv,N.lvl=lv:=⟨_,rfl⟩;rw[d3] at hl;have i3:=(hY w (Turn.refl _ _)).len;obtain⟨P1,U,b1,hO,hN⟩:∃P1 U b1,Gu olds P (pieces N) []=some (P1,U,b1)/\Xe U P1 b1=some (P',r):=by
  unfold Pl.Y7 at a1;dsimp only at a1;split at a1
  ·rename_i P1 U b1 e;exact⟨P1,U,b1,e,a1⟩
  ·cases a1
 clear a1;have i0:(pieces N).length<=40:=by
  unfold pieces parts;rw[List.length_map,List.length_range];have:6<=Qq N.lvl:=by unfold Qq;split<;>omega
  exact Nat.le_trans (Nat.div_le_div_right (show N.size+Qq N.lvl-1<=40*Qq N.lvl by omega)) (by rw[Nat.mul_div_cancel _ (by omega)];exact Nat.le_refl _)
 have g1:∀M∈pieces N,M.fit:=λM hM=>by
  unfold pieces at hM;obtain⟨q,_,rfl⟩:=List.mem_map.1 hM;exact q7u b7 _ _
 have b4:Below w.1.size w ((((w.alloc (.cells #[.pointer (some ⟨p,0,none⟩)] 122)).alloc (.cells (Xl lv A n c B m dd Y k kc i j).toArray 183)).alloc (.cells #[.int .i64 0,.slice none 0 0,.slice none 0 0] 127)).alloc (.cells #[.int .i64 (lv+1),.slice none 0 0,.slice none 0 0] 127)):=(((Qm).alloc (by simp) _).alloc (by simp;omega) _).alloc (by simp;omega) _;have O4:Rx w ((((w.alloc (.cells #[.pointer (some ⟨p,0,none⟩)] 122)).alloc (.cells (Xl lv A n c B m dd Y k kc i j).toArray 183)).alloc (.cells #[.int .i64 0,.slice none 0 0,.slice none 0 0] 127)).alloc (.cells #[.int .i64 (lv+1),.slice none 0 0,.slice none 0 0] 127)) p (Xl lv A n c B m dd Y k kc i j) (lv+1) none 0 0:=by
  have q1:=RB.new w [.pointer (some ⟨p,0,none⟩)] 122;have q2:=RB.new (w.alloc (.cells #[.pointer (some ⟨p,0,none⟩)] 122)) (Xl lv A n c B m dd Y k kc i j) 183;have q3:=NB.new2 (w.alloc (.cells #[.pointer (some ⟨p,0,none⟩)] 122)) (.cells (Xl lv A n c B m dd Y k kc i j).toArray 183) 0 none 0 0 none 0 0 127;have q4:=NB.new2 ((w.alloc (.cells #[.pointer (some ⟨p,0,none⟩)] 122)).alloc (.cells (Xl lv A n c B m dd Y k kc i j).toArray 183)) (.cells #[.int .i64 0,.slice none 0 0,.slice none 0 0] 127) (lv+1) none 0 0 none 0 0 127;simp only[World.size_alloc] at q2 q3 q4;exact⟨((q1.below (Qm) (by simp<;>omega)).below (Qm) (by simp<;>omega)).below (Qm) (by simp<;>omega),(q2.below (Qm) (by simp<;>omega)).below (Qm) (by simp<;>omega),q3.below (Qm) (by simp<;>omega),q4⟩
 have z4:((((w.alloc (.cells #[.pointer (some ⟨p,0,none⟩)] 122)).alloc (.cells (Xl lv A n c B m dd Y k kc i j).toArray 183)).alloc (.cells #[.int .i64 0,.slice none 0 0,.slice none 0 0] 127)).alloc (.cells #[.int .i64 (lv+1),.slice none 0 0,.slice none 0 0] 127)).1.size=w.1.size+4:=by simp
 have Hp:=λ(u:World)=>qi7 hB b7 (by omega) u
 rw[d3] at Hp;replace Hp:=Lib.hid Hp;have i5:IntKind.i64.wrap (lv+1)=lv+1:=IntWalk.i64_in _ (by omega);have y0:=O4.t.cell 0 rfl;have d2:=O4.x.cell 0 rfl;have d9:=O4.x.cell 1 rfl;have d7:=O4.x.cell 2 rfl;rw[d3];unfold tv;unfold Xl at b4 O4 z4 d2 d9 d7 y0 ⊢;go_enter Tryz.func111,Tryz.ntmps111
 go_wp2_with fail
 generalize ((((w.alloc (.cells #[.pointer (some ⟨p,0,none⟩)] 122)).alloc (.cells #[.int .i64 lv,.slice A n c,.slice B m dd,.slice Y k kc,.int .i64 i,.int .i64 j] 183)).alloc (.cells #[.int .i64 0,.slice none 0 0,.slice none 0 0] 127)).alloc (.cells #[.int .i64 (lv+1),.slice none 0 0,.slice none 0 0] 127))=w4 at b4 O4 z4 d2 d9 d7 y0 ⊢;refine (Hp.out w4).mono ?_;rintro e wp ⟨X,m0,mc,rfl,b8,b5⟩;have z5:=b5.size;have W:w.1.size+4<=wp.1.size:=by omega
 have bp:Below w.1.size w wp:=b4.trans (b5.mono b4.size);have L0:=(Bf.start H hb ht hP).below bp;have I0:Ux b w wp wp d p S0 S T D [.int .i64 lv,.slice A n c,.slice B m dd,.slice Y k kc,.int .i64 i,.int .i64 j] (lv+1) P X m0 mc (pieces N) none 0 0 [] (grow T w wp):=by
  have O5:=O4.turned (Qv (S:=λ_=>False) b5) λ_ h=>h.elim
  exact⟨L0,O5,b8.bnl,qk0 _ _,λg h1 h2=>qtj h1 h2,λg hg=>by have:=b8.Qa g hg;omega,λg hg=>by (cases hg),g1⟩
 have x3:=I0.o.x.cell 3 rfl;clear O4 b8 d2 d9 d7 y0 Hp L0;go_wp2_with fail
 go_loopw [7,29] (λl q wr=>∃(a:Nat) (Pa:Pl) (T':Nat->Prop) (X:Option Addr) (m1 mc:Nat) (rest:List Nd) (K:Option Addr) (n1 c1:Nat) (ks:List Ql),a<=k/\n1<=a/\rest.length<=40/\q=.int .i64 (a:Int)/\l=.slice X m1 mc/\Ux b w wp wr d p S0 S T D [.int .i64 lv,.slice A n c,.slice B m dd,.slice Y k kc,.int .i64 i,.int .i64 j] (lv+1) Pa X m1 mc rest K n1 c1 ks T'/\Gu (olds.drop a) Pa rest ks=some (P1,U,b1)) (λ_ q _=>k-(intOf q).toNat)
 case atStart=>exact⟨0,P,_,X,m0,mc,_,none,0,0,[],Nat.zero_le _,Nat.le_refl _,i0,rfl,rfl,I0,hO⟩
 case round=>
  obtain⟨a,Pa,T',X,m1,mc,rest,K,n1,c1,ks,ha,g6,d0,rfl,rfl,I,a6⟩:=hrel;by_cases d8:a<k
  ·rw[qtk (by omega)] at a6;obtain⟨g,o,As,ns,cs,Bs,ms,ds,i2,hg,b0,g0⟩:=(hY wr I.l.turn).get d8;obtain⟨⟨sN,G,nx,hd,sh⟩,hs⟩:∃s,Y5 olds a=s:=⟨_,rfl⟩;rw[hs] at a6 b0 g0;subst i2;have f0:=b0 0 _ rfl;have f1:=b0 1 _ rfl;have f2:=b0 2 _ rfl;have f3:=b0 3 _ rfl;have f4:=b0 4 _ rfl;have f5:=b0 5 _ rfl;have f6:=b0 6 _ rfl;rw[Nat.add_zero] at f0;have y0:=I.o.t.cell 0 rfl;have d4:=I.row.len
   cases rest with
   |nil=>
    obtain⟨P2,hv,a8⟩:=qal a6;obtain rfl:0=m1:=d4;go_wp2_with (first
     |(refine Oe rfl _ _ rfl wr.1.size rfl sN.lvl As ns cs Bs ms ds G (nx:Int) hd sh rfl (Ih wr) rfl ?_;intro w1 E T1
       have f:Below wr.1.size wr w1:=((Below.refl _ _).alloc (Nat.le_refl _) Ud).trans (T1.below (λk hk=>by have:k=wr.1.size:=hk;omega) (by simp));have y:=I.below f W;have y0:=y.o.t.cell 0 rfl;have e0:=E.cell 0 rfl;have e1:=E.cell 1 rfl;have e2:=E.cell 2 rfl;have e3:=E.cell 3 rfl;have e4:=E.cell 4 rfl;have e5:=E.cell 5 rfl;have e6:=E.cell 6 rfl)
     |fail)
    have Hv:=q5n y.l.sys hb y.l.tab ⟨sN,G,nx,hd,sh⟩ As ns cs Bs ms ds hv;refine Hv.mono ?_;rintro e w2 ⟨rfl,H2,X2,t2⟩;have I2:=y.next (y.l.step H2 X2 t2 (y.l.tidy.leave hv)) (λ_ h=>h) X2 W;clear f0 f1 f2 f3 f4 f5 f6 e0 e1 e2 e3 e4 e5 e6 y0;go_wp2_with fail
    exact⟨⟨a+1,P2,_,X,0,mc,[],K,n1,c1,ks,by omega,by omega,d0,by go_num,rfl,I2,a8⟩,by simp[intOf];omega⟩
   |cons M rest=>
    rw[List.length_cons] at d4;have j0:¬(m1:Int)=0:=by omega
    have j8:((m1:Int)==0)=false:=by simp;omega
    have i9:(0:Int)<(m1:Int):=by omega
    have j7:0<m1:=by omega
    cases sh with
    |true=>
     obtain⟨P2,hv,a8⟩:=q48 (.inl rfl) a6;go_wp2_with (first
      |(refine Oe rfl _ _ rfl wr.1.size rfl sN.lvl As ns cs Bs ms ds G (nx:Int) hd true rfl (Ih wr) rfl ?_;intro w1 E T1
        have f:Below wr.1.size wr w1:=((Below.refl _ _).alloc (Nat.le_refl _) Ud).trans (T1.below (λk hk=>by have:k=wr.1.size:=hk;omega) (by simp));have y:=I.below f W;have y0:=y.o.t.cell 0 rfl;have e0:=E.cell 0 rfl;have e1:=E.cell 1 rfl;have e2:=E.cell 2 rfl;have e3:=E.cell 3 rfl;have e4:=E.cell 4 rfl;have e5:=E.cell 5 rfl;have e6:=E.cell 6 rfl)
      |fail)
     have Hv:=q5n y.l.sys hb y.l.tab ⟨sN,G,nx,hd,true⟩ As ns cs Bs ms ds hv;refine Hv.mono ?_;rintro e w2 ⟨rfl,H2,X2,t2⟩;have I2:=y.next (y.l.step H2 X2 t2 (y.l.tidy.leave hv)) (λ_ h=>h) X2 W;clear f0 f1 f2 f3 f4 f5 f6 e0 e1 e2 e3 e4 e5 e6 y0;go_wp2_with fail
     exact⟨⟨a+1,P2,_,X,m1,mc,M::rest,K,n1,c1,ks,by omega,by omega,d0,by go_num,rfl,I2,a8⟩,by simp[intOf];omega⟩
    |false=>
     obtain⟨fr,c9⟩:∃fr,Pa.C.fresh G=fr:=⟨_,rfl⟩
     cases fr with
     |false=>
      obtain⟨P2,hv,a8⟩:=q48 (.inr c9) a6;go_wp2_with (first
       |(refine Oe rfl _ _ rfl wr.1.size rfl sN.lvl As ns cs Bs ms ds G (nx:Int) hd false rfl (Ih wr) rfl ?_;intro w1 E T1
         have f:Below wr.1.size wr w1:=((Below.refl _ _).alloc (Nat.le_refl _) Ud).trans (T1.below (λk hk=>by have:k=wr.1.size:=hk;omega) (by simp));have y:=I.below f W;have y0:=y.o.t.cell 0 rfl;have e0:=E.cell 0 rfl;have e1:=E.cell 1 rfl;have e2:=E.cell 2 rfl;have e3:=E.cell 3 rfl;have e4:=E.cell 4 rfl;have e5:=E.cell 5 rfl;have e6:=E.cell 6 rfl)
       |fail)
      refine (q7q y.l.sys.pool G false c9).mono ?_;rintro e _ ⟨rfl,rfl⟩;go_wp2_with fail
      have Hv:=q5n y.l.sys hb y.l.tab ⟨sN,G,nx,hd,false⟩ As ns cs Bs ms ds hv;refine Hv.mono ?_;rintro e w2 ⟨rfl,H2,X2,t2⟩;have I2:=y.next (y.l.step H2 X2 t2 (y.l.tidy.leave hv)) (λ_ h=>h) X2 W;clear f0 f1 f2 f3 f4 f5 f6 e0 e1 e2 e3 e4 e5 e6 y0;go_wp2_with fail
      exact⟨⟨a+1,P2,_,X,m1,mc,M::rest,K,n1,c1,ks,by omega,by omega,d0,by go_num,rfl,I2,a8⟩,by simp[intOf];omega⟩
     |true=>
      obtain⟨hE,a8⟩:=qam rfl c9 a6;dsimp only at hE a8;obtain⟨J,o2,Am,nm,cm,Bm,mm,dm,d5,c7,m0,a7,m2,O⟩:=I.row.get (show 0<m1 by omega);subst d5;rw[show U4 (M::rest) 0=M from rfl] at m0 O;rw[Nat.zero_mul,Nat.add_zero] at m0 a7 m2;have g8:=O.hn;have e9:=O.hm;have d1:=I.fit M (List.mem_cons_self ..);go_wp2_with (first
       |(refine Oe rfl _ _ rfl wr.1.size rfl sN.lvl As ns cs Bs ms ds G (nx:Int) hd false rfl (Ih wr) rfl ?_;intro w1 E T1
         have f:Below wr.1.size wr w1:=((Below.refl _ _).alloc (Nat.le_refl _) Ud).trans (T1.below (λk hk=>by have:k=wr.1.size:=hk;omega) (by simp));have y:=I.below f W;have y0:=y.o.t.cell 0 rfl;have e0:=E.cell 0 rfl;have e1:=E.cell 1 rfl;have e2:=E.cell 2 rfl;have e3:=E.cell 3 rfl;have e4:=E.cell 4 rfl;have e5:=E.cell 5 rfl;have e6:=E.cell 6 rfl)
       |fail)
      refine (q7q y.l.sys.pool G true c9).mono ?_;rintro e _ ⟨rfl,rfl⟩;have gy:∀u:Grown w1,u.to.cell? ⟨w.1.size,0,none⟩=some (.pointer (some ⟨p,0,none⟩)):=Grown.cell y0 y.o.t.lt;have g3:∀u:Grown w1,u.to.cell? ⟨wr.1.size,3,none⟩=some (.int .i64 G):=Grown.cell e3 E.lt;have f9:∀u:Grown w1,u.to.cell? ⟨J,o2,none⟩=some (.int .i64 M.lvl):=Grown.cell ((f.cell (p:=⟨J,o2,none⟩) c7).trans m0) (by have:=f.size;show J<_;omega);have g9:∀u:Grown w1,u.to.cell? ⟨J,o2+1,none⟩=some (.slice Am nm cm):=Grown.cell ((f.cell (p:=⟨J,o2+1,none⟩) c7).trans a7) (by have:=f.size;show J<_;omega);have i1:∀u:Grown w1,u.to.cell? ⟨J,o2+2,none⟩=some (.slice Bm mm dm):=Grown.cell ((f.cell (p:=⟨J,o2+2,none⟩) c7).trans m2) (by have:=f.size;show J<_;omega);clear f0 f1 f2 f3 f4 f5 f6 e0 e1 e2 e4 e5 e6;go_wp2_with fail
      refine q2c 8 (by kernel_rfl) (by kernel_rfl) ?_;simp only[List.take_succ_cons,List.take_zero,List.drop_succ_cons,List.drop_zero];repeat (go_big_quiet_step (first|fail))
      refine wpQuiet_nil ?_;rintro _ ⟨u,rfl⟩;have Iu:=y.below u.ok W;have Hs:=qme Iu.l.sys hb Iu.l.tab Iu.l.tidy G M Am nm cm Bm mm dm (O.its.Zq Iu.l.turn) (O.Bo _ Iu.l.turn) (by omega) (by omega);rw[hE] at Hs;go_wp2_with fail
      refine Hs.mono ?_;rintro e w2 ⟨rfl,H2,X2,t2⟩;have I2:=Iu.next (Iu.l.step H2 X2 t2 (Iu.l.tidy.set G M)) (λ_ h=>h) X2 W;have R2:=(E.below u.ok E.lt).turned X2 (Iu.l.not (by have:=I.l.turn.size;omega));have c8:w2.1[J]?=wr.1[J]?:=(X2.block J (by have:=f.size;have:=u.ok.size;omega) (I.l.not (by have:=I.Nb J rfl;omega))).trans ((u.ok.block J (by have:=f.size;omega)).trans (f.block J c7));have m0:=(World.cell?_of_block (a:=⟨J,o2,none⟩) c8).trans m0;have a7:=(World.cell?_of_block (a:=⟨J,o2+1,none⟩) c8).trans a7;have m2:=(World.cell?_of_block (a:=⟨J,o2+2,none⟩) c8).trans m2;have z2:J<w2.1.size:=by have:=f.size;have:=u.ok.size;have:=X2.size;omega
      clear gy g3 f9 g9 i1 c8 y0 e3;have F:∀v,Below w2.1.size w2 v->v.cell? ⟨w.1.size+1+1+1,2,none⟩=some (.slice K n1 c1)/\v.cell? ⟨J,o2,none⟩=some (.int .i64 M.lvl)/\v.cell? ⟨J,o2+1,none⟩=some (.slice Am nm cm)/\v.cell? ⟨J,o2+2,none⟩=some (.slice Bm mm dm)/\v.cell? ⟨wr.1.size,3,none⟩=some (.int .i64 G):=λv hv=>
       ⟨(I2.o.k.below hv I2.o.k.lt).c2,(hv.cell (p:=⟨J,o2,none⟩) z2).trans m0,(hv.cell (p:=⟨J,o2+1,none⟩) z2).trans a7,(hv.cell (p:=⟨J,o2+2,none⟩) z2).trans m2,(R2.below hv R2.lt).cell 3 rfl⟩
      have b2:∀q,q01 K=some q->wp.1.size<=q/\q<wr.1.size:=λq hq=>I.kids.Qa q hq
      have zX:=I.Nb J rfl;have j9:wp.1.size<=wr.1.size:=by have:=(I.l.sys.tight _ (I.own (wp.1.size-1) (by omega) (by omega))).2;omega
      have FT:∀v v',Below w2.1.size w2 v->Turn (λq=>q01 K=some q) v v'->v'.cell? ⟨w.1.size+1+1+1,2,none⟩=some (.slice K n1 c1)/\v'.cell? ⟨J,o2,none⟩=some (.int .i64 M.lvl)/\v'.cell? ⟨J,o2+1,none⟩=some (.slice Am nm cm)/\v'.cell? ⟨J,o2+2,none⟩=some (.slice Bm mm dm)/\v'.cell? ⟨wr.1.size,3,none⟩=some (.int .i64 G):=λv v' hv T=>by
       have hs:=hv.size;have e1:v'.1[w.1.size+1+1+1]?=v.1[w.1.size+1+1+1]?:=T.block _ (by have:=I2.o.k.lt;omega) (λh=>by have:=(b2 _ h).1;omega);have e2:v'.1[J]?=v.1[J]?:=T.block _ (by omega) (λh=>by have:=(b2 _ h).1;omega);have e3:v'.1[wr.1.size]?=v.1[wr.1.size]?:=T.block _ (by have:=R2.lt;omega) (λh=>by have:=(b2 _ h).2;omega);obtain⟨x1,x2,x3,x4,x5⟩:=F v hv;exact⟨(World.cell?_of_block (a:=⟨_,2,none⟩) e1).trans x1,(World.cell?_of_block (a:=⟨J,o2,none⟩) e2).trans x2,(World.cell?_of_block (a:=⟨J,o2+1,none⟩) e2).trans x3,(World.cell?_of_block (a:=⟨J,o2+2,none⟩) e2).trans x4,(World.cell?_of_block (a:=⟨_,3,none⟩) e3).trans x5⟩
      clear m0 a7 m2;have HK:=λ(v:World) (hv:Below w2.1.size w2 v)=>qg4 M d1 G Am nm cm Bm mm dm v (O.its.Zq (I2.l.turn.then (Qv hv))) (O.Bo _ (I2.l.turn.then (Qv hv))) (by omega) (by omega)
      obtain⟨z,hz⟩:∃z,M.least=z:=⟨_,rfl⟩;rw[hz] at HK a8;unfold Xy Ql.vs at HK;dsimp only at HK;replace HK:=Lib.hid HK;have b6:=Lib.hid (λ(v:World)=>(qpq v ⟨z,G⟩:Zm (v.alloc (.cells #[.int .i64 z.obj,.int .i64 z.kind,.int .i64 z.off,.int .i64 G] 81)) (some ⟨v.1.size,0,none⟩) 1 1 [⟨z,G⟩]));have i8:n1<=1000:=by omega
      have k3:wp.1.size<=w2.1.size:=by have:=f.size;have:=u.ok.size;have:=X2.size;omega
      have Z:Below w2.1.size w2 w2.drew:=(Below.refl _ _).drew;clear hz;go_wp2_with fail
      obtain⟨q1,q2,q3,q4,q5⟩:=F _ Z;go_region_law (first
       |(rw[if_pos (by rfl)];refine q6v (base:=wp.1.size) (.tmp 70) (.tmp 77) (by rfl) (by rfl) (I2.kids.below (Z.alloc Z.size (.cells #[.int .i64 z.obj,.int .i64 z.kind,.int .i64 z.off,.int .i64 G] 81))) (by rfl) (b6.out _) (by omega) (by have:=(Z.alloc Z.size (.cells #[.int .i64 z.obj,.int .i64 z.kind,.int .i64 z.off,.int .i64 G] 81)).size;omega) ?_;intro K6 c6 w6 k6 T6 b9;have bA:=Z.alloc Z.size (.cells #[.int .i64 z.obj,.int .i64 z.kind,.int .i64 z.off,.int .i64 G] 81);have I6:=Lib.hid (I2.more W bA k6 T6 b9);have N6:=(I2.o.k.below bA I2.o.k.lt).turned T6 (λh=>by have:=(b2 _ h).1;omega);have f2:=N6.fz 2;have p2:=N6.c2;clear N6 k6 T6 b9)
       |(go_simp;go_at_call 146;(with_reducible refine (HK.out _ Z).mono ?_);rintro e wX ⟨rfl,hX⟩;replace Z:=Z.trans (hX.mono Z.size);clear hX q1 q2 q3 q4 q5;obtain⟨q1,q2,q3,q4,q5⟩:=F _ Z;obtain⟨r1,r2,r3,r4,r5⟩:=F _ (Z.alloc Z.size (.cells #[.int .i64 z.obj,.int .i64 z.kind,.int .i64 z.off,.int .i64 G] 81))))
      all_goals (
       go_wp2_with fail
       rw[List.length_cons] at d0;obtain⟨o',eo,I7⟩:=I6.out.tail;rw[eo];exact⟨⟨a+1,Pa.Vq G M,_,some ⟨J,o',none⟩,m1-1,mc-1,rest,K6,n1+1,c6,ks++[⟨z,G⟩],by omega,by omega,by omega,by go_num,rfl,I7,a8⟩,by simp[intOf];omega⟩)
  ·obtain⟨rfl,rfl,rfl⟩:Pa=P1/\rest=U/\ks=b1:=by
    rw[List.drop_eq_nil_of_le (by omega)] at a6;unfold Gu at a6;injection Option.some.inj a6 with e1 e2;injection e2 with e2 e3;exact⟨e1,e2,e3⟩
   have d4:=I.row.len;have g4:¬(a:Int)<(k:Int):=by omega
   clear a6 hO;go_wp2_with fail
   go_loopw [86] (λq wr=>∃(a2:Nat) (Pb:Pl) (T2:Nat->Prop) (K:Option Addr) (n1 c1:Nat) (ks:List Ql),a2<=m1/\n1<=k+a2/\q=.int .i64 (a2:Int)/\Ux b w wp wr d p S0 S T D [.int .i64 lv,.slice A n c,.slice B m dd,.slice Y k kc,.int .i64 i,.int .i64 j] (lv+1) Pb X m1 mc rest K n1 c1 ks T2/\Xe (rest.drop a2) Pb ks=some (P',r)) (λq _=>m1-(intOf q).toNat)
   case atStart=>exact⟨0,Pa,_,K,n1,c1,ks,Nat.zero_le _,by omega,rfl,I,hN⟩
   case round=>
    clear I;obtain⟨a2,Pb,T2,K,n1,c1,ks,i6,g6,rfl,I,b3⟩:=hrel;by_cases d8:a2<m1
    ·rw[qwj (by omega)] at b3;obtain⟨J,o2,Am,nm,cm,Bm,mm,dm,d5,c7,m0,a7,m2,O⟩:=I.row.get d8;have d1:=I.fit (U4 rest a2) (by have:=List.mem_of_getElem? (q5e (Ns:=rest) (j:=a2) (by omega));exact this);obtain⟨M,hM⟩:∃M,U4 rest a2=M:=⟨_,rfl⟩;rw[hM] at b3 O d1 m0;subst d5;have g8:=O.hn;have e9:=O.hm;have y0:=I.o.t.cell 0 rfl;go_wp2_with (first
      |(refine q2a rfl _ _ rfl wr.1.size rfl M.lvl Am nm cm Bm mm dm rfl (NB.new wr 0 none 0 0 none 0 0 127) ?_;intro w1 E T1
        have f:Below wr.1.size wr w1:=(Qm).trans (T1.below (λk hk=>by have:k=wr.1.size:=hk;omega) (by simp));have y:=I.below f W;have y0:=y.o.t.cell 0 rfl;have e0:=E.c0;have e1:=E.c1;have e2:=E.c2)
      |fail)
     have Hp:=qcl y.l.sys hb y.l.tab M Am nm cm Bm mm dm (λu hu=>⟨O.its.Zq (y.l.turn.then hu),O.Bo _ (y.l.turn.then hu)⟩) (by omega) (by omega);have zw:wp.1.size<=wr.1.size:=by have:=(I.l.sys.tight _ (I.own (wp.1.size-1) (by omega) (by omega))).2;omega
     have b2:∀q,q01 K=some q->wp.1.size<=q/\q<wr.1.size:=λq hq=>I.kids.Qa q hq
     rcases qan b3 with⟨hE,d6⟩|⟨hE,hR⟩
     ·rw[hE] at Hp;refine Hp.mono ?_;rintro e w2 ⟨rfl,H2,X2,t2⟩;have I2:=y.next (y.l.step H2 X2 t2 (y.l.tidy.put M)) (λ_ h=>h) X2 W;have R2:=E.turned X2 (y.l.not (by omega));have zs:=f.size;have i7:=X2.size;obtain⟨G,e7⟩:∃G,Pb.Xg M=G:=⟨_,rfl⟩;rw[e7] at d6 ⊢;have F:∀v,Below w2.1.size w2 v->v.cell? ⟨w.1.size+1+1+1,2,none⟩=some (.slice K n1 c1)/\v.cell? ⟨wr.1.size,0,none⟩=some (.int .i64 M.lvl)/\v.cell? ⟨wr.1.size,1,none⟩=some (.slice Am nm cm)/\v.cell? ⟨wr.1.size,2,none⟩=some (.slice Bm mm dm):=λv hv=>
       have r:=R2.below hv R2.lt;⟨(I2.o.k.below hv I2.o.k.lt).c2,r.c0,r.c1,r.c2⟩
      clear y0 e0 e1 e2 m0 a7 m2 e7;have HK:=λ(v:World) (hv:Below w2.1.size w2 v)=>qg4 M d1 G Am nm cm Bm mm dm v (O.its.Zq (I2.l.turn.then (Qv hv))) (O.Bo _ (I2.l.turn.then (Qv hv))) (by omega) (by omega)
      obtain⟨z,hz⟩:∃z,M.least=z:=⟨_,rfl⟩;rw[hz] at HK d6;unfold Xy Ql.vs at HK;dsimp only at HK;replace HK:=Lib.hid HK;have b6:=Lib.hid (λ(v:World)=>(qpq v ⟨z,G⟩:Zm (v.alloc (.cells #[.int .i64 z.obj,.int .i64 z.kind,.int .i64 z.off,.int .i64 G] 81)) (some ⟨v.1.size,0,none⟩) 1 1 [⟨z,G⟩]));have i4:m1<=40:=by omega
      have Z:Below w2.1.size w2 w2.drew:=(Below.refl _ _).drew;clear hz;go_wp2_with fail
      obtain⟨q1,q2,q3,q4⟩:=F _ Z;go_region_law (first
       |(rw[if_pos (by rfl)];refine q6v (base:=wp.1.size) (.tmp 104) (.tmp 108) (by rfl) (by rfl) (I2.kids.below (Z.alloc Z.size (.cells #[.int .i64 z.obj,.int .i64 z.kind,.int .i64 z.off,.int .i64 G] 81))) (by rfl) (b6.out _) (by omega) (by have:=(Z.alloc Z.size (.cells #[.int .i64 z.obj,.int .i64 z.kind,.int .i64 z.off,.int .i64 G] 81)).size;omega) ?_;intro K6 c6 w6 k6 T6 b9;have bA:=Z.alloc Z.size (.cells #[.int .i64 z.obj,.int .i64 z.kind,.int .i64 z.off,.int .i64 G] 81);have I6:=Lib.hid (I2.more W bA k6 T6 b9);have N6:=(I2.o.k.below bA I2.o.k.lt).turned T6 (λh=>by have:=(b2 _ h).1;omega);have f2:=N6.fz 2;have p2:=N6.c2;clear N6 k6 T6 b9)
       |(go_simp;go_at_call 146;(with_reducible refine (HK.out _ Z).mono ?_);rintro e wX ⟨rfl,hX⟩;replace Z:=Z.trans (hX.mono Z.size);clear hX q1 q2 q3 q4;obtain⟨q1,q2,q3,q4⟩:=F _ Z;obtain⟨r1,r2,r3,r4⟩:=F _ (Z.alloc Z.size (.cells #[.int .i64 z.obj,.int .i64 z.kind,.int .i64 z.off,.int .i64 G] 81))))
      all_goals (
       go_wp2_with fail
       exact⟨⟨a2+1,Pb.Zn M,_,K6,n1+1,c6,ks++[⟨z,G⟩],by omega,by omega,by go_num,I6.out,d6⟩,by simp[intOf];omega⟩)
     ·rw[hE] at Hp;refine Hp.mono ?_;rintro e w2 ⟨rfl,H2,X2,t2⟩;have I2:=y.next (y.l.step H2 X2 t2 (y.l.tidy.put M)) (λ_ h=>h) X2 W;injection hR with g5 g7;subst g5 g7;have NR:=I2.o.r;clear y0 e0 e1 e2 m0 a7 m2;go_wp2_with (first
       |(refine q2a rfl _ _ rfl (w.1.size+2) rfl 0 none 0 0 none 0 0 rfl NR ?_;intro w3 R3 T3)
       |fail)
      refine bodyPost_ret (q16 Tryz.results111 rfl (qag R3)) rfl ?_;have L3:=I2.l.own T3 (λk hk=>by have hk:k=w.1.size+2:=hk;exact⟨I2.own k (by omega) (by omega),by omega⟩);exact⟨none,0,0,none,0,0,0,rfl,λ_ h=>(by cases h),L3.done,L3.turn,L3.tab,L3.tidy⟩
    ·obtain⟨rfl,rfl⟩:Pb=P'/\some ks=r:=by
      rw[List.drop_eq_nil_of_le (by omega)] at b3;unfold Xe at b3;injection Option.some.inj b3 with e1 e2;exact⟨e1,e2⟩
     have g4:¬(a2:Int)<(m1:Int):=by omega
     have NR:=I.o.r;have k0:=I.o.k.c0;have k1:=I.o.k.c1;have k2:=I.o.k.c2;go_wp2_with (first
      |(refine q2a rfl _ _ rfl (w.1.size+2) rfl (lv+1) none 0 0 K n1 c1 rfl NR ?_;intro w3 R3 T3)
      |fail)
     refine bodyPost_ret (q16 Tryz.results111 rfl (qag R3)) rfl ?_;have L3:=I.l.own T3 (λk hk=>by have hk:k=w.1.size+2:=hk;exact⟨I.own k (by omega) (by omega),by omega⟩);have kk:=I.kids.turned T3 (λg hg h=>by have h:g=w.1.size+2:=h;have:=(I.kids.Qa g hg).1;omega);have ss:=Qs.Vs kk (by omega);have ln:=kk.len;refine⟨none,0,0,K,n1,c1,lv+1,rfl,?_,L3.done,L3.turn,L3.tab,L3.tidy⟩;exact⟨rfl,qpg _,λu hu=>Qs.Vs (Qs.turned kk hu λg hg=>L3.not (by have:=(kk.Qa g hg).1;omega)) (by omega),rfl,kk.len,⟨by omega,by omega,by unfold maxLen;omega⟩,⟨by omega,ss.cap,ss.max⟩⟩
end
