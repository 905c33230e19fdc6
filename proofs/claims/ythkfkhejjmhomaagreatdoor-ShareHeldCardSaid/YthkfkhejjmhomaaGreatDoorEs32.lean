/- The code's PutNode, of a node that lies apart from the pool; for a pool and its drive -/
import Derived.Test.YthkfkhejjmhomaaGreatDoorEs31
namespace Go.Proofs.YthkfkhejjmhomaaGreatDoor
open Go Go.RowKit Go.Proofs
set_option maxHeartbeats 8000000
set_option maxRecDepth 100000
section
open Go.ChangeMaps (setBlock)
theorem qed {w:World}{p d:Nat}{S T:Nat->Prop}{P:Pl}(H:Pool w p d S T P)(hT:∀k,T k->k<w.1.size)(hG:¬T 1)(N:Nd)(A:Option Addr)(n c:Nat)(B:Option Addr)(F G:Nat)(a6:∀w',Turn S w w'->Jd w' A n c N.items/\Zp w' B F G N.kids)(hn:n<=1000)(hm:F<=1000)(ht:Tab w) :
  Calls Tryz.prog 232 #[.pointer (some ⟨p,0,none⟩),.agg #[.int .i64 N.lvl,.slice A n c,.slice B F G]] w λe w'=>e=.returned (.tuple #[.int .i64 (P.Yw N),.int .i64 (P.Jo N)])/\Pool w' p d S T (P.Jm N)/\Turn S w w'/\Tab w':=by
 have a9:=H.ok;have N1:NB (w.alloc (.cells #[.int .i64 N.lvl,.slice A n c,.slice B F G] 77)) w.1.size N.lvl A n c B F G:=NB.new w _ _ _ _ _ _ _ _;have Z:Below w.1.size w (w.alloc (.cells #[.int .i64 N.lvl,.slice A n c,.slice B F G] 77)):=Qn;have z1:(w.alloc (.cells #[.int .i64 N.lvl,.slice A n c,.slice B F G] 77)).1.size=w.1.size+1:=by simp
 have a5:=λr hr w' (hw:Turn S w w')=>q27 N r hr A n c B F G w' (a6 w' hw).1 (a6 w' hw).2 hn hm
 have c0:=N1.c0;have c1:=N1.c1;have c2:=N1.c2;have t1:=ht.below Z ht.1;have H1:=H.below Z;have B1:Turn S w (w.alloc (.cells #[.int .i64 N.lvl,.slice A n c,.slice B F G] 77)):=Qu Z
 cases f:N.may with
 |false=>
  have e1:P.Yw N=0:=by unfold Pl.Yw;rw[f];rfl
  have e2:P.Jo N=1:=by unfold Pl.Jo;rw[f];rfl
  have e3:P.Jm N=P:=by unfold Pl.Jm;rw[f];rfl
  rw[e1,e2,e3];have a0:=Lib.hid (a5 false f);clear f e1 e2 e3 a5;go_enter Tryz.func232,Tryz.ntmps232
  go_wp2_with fail
  generalize w.alloc (.cells #[.int .i64 N.lvl,.slice A n c,.slice B F G] 77)=w1 at Z N1 z1 c0 c1 c2 t1 H1 B1 ⊢;refine (a0.out w1 B1).mono ?_;rintro e w2 ⟨rfl,J⟩;go_wp2;go_ret2;have BB:=Z.trans (J.mono (by omega));exact⟨rfl,H.below BB,Qu BB,ht.below BB ht.1⟩
 |true=>
  have a8:=q4w f;have e1:P.Yw N=P.C.Kv:=by unfold Pl.Yw;rw[f];rfl
  have e2:P.Jo N=P.C.Ku:=by unfold Pl.Jo;rw[f];rfl
  have e3:P.Jm N=P.lay (.node N):=by unfold Pl.Jm;rw[f];rfl
  have c7:=λ(a:Nat) (ha:a<=2047)=>q73 f ha q2a
  have a0:=Lib.hid (a5 true f);have d2:=Lib.hid c7;rw[e1,e2,e3];clear f a5 c7 e1 e2 e3;have H0:=H;obtain⟨m,d3,l,clock,v,Sc,L⟩:=H1;have b8:=L.Iq;have b6:=L.mlt
  cases hp:P.C.pick with
  |none=>
   obtain⟨a1,a2,a3⟩:=Ct.Y7 hp;have E:=λ(w2:World) (C2:Yu w2 p 36 Sc P.C)=>q7y C2
   rw[a1,a2,a3] at E;rw[a1,a2,q9h hp];have E:=Lib.hid E;clear a1 a2 a3 hp;go_enter Tryz.func232,Tryz.ntmps232
   go_wp2_with fail
   generalize w.alloc (.cells #[.int .i64 N.lvl,.slice A n c,.slice B F G] 77)=w1 at Z N1 z1 c0 c1 c2 t1 B1 L b8 b6 ⊢;refine (a0.out w1 B1).mono ?_;rintro e w2 ⟨rfl,J⟩;have u:=L.below J;go_wp2_with fail
   refine (E.out w2 u.ct).mono ?_;rintro e y ⟨rfl,C3,Y⟩;go_wp2;go_ret2;have BB:=Z.trans (J.mono (by omega));have X3:Turn S w y:=(Qu (S:=S) BB).trans (Y.mono u.Yj.2.2) λk hk=>.inl hk
   exact⟨rfl,⟨m,d3,l,clock,v,Sc,u.Qa1 Y C3 rfl (λ_=>Iff.rfl) a9⟩,X3,ht.turned X3 λh=>hG (u.sub _ h)⟩
  |some a=>
   obtain⟨a1,a2,a3⟩:=Ct.Jh hp;have d5:=(Ct.J4 hp).1;have M:P.C.get (a:Int)=0:=by unfold Ct.get;rw[if_pos (by omega),Int.toNat_natCast];exact (Ct.J4 hp).2.2.1
   have U:Zg (a:Int) l=none:=by rw[L.look a];unfold Pl.live;rw[if_pos M];rfl
   have I:=Lib.hid U;have e8:=a9.c.1;have hS:=qtq (P:=P) (.node N);have b7:=qme (P:=P) (.node N);have a7:=qk8 a9 a8.fine;have b3:P.C.alloc=(P.lay (.node N)).C:=by rw[q2n hp]
   have b5:=qkf hp (.node N);have b4:=qkg a8 L.good;have E:=λ(w2:World) (C2:Yu w2 p 36 Sc P.C)=>q7y C2
   rw[a1,a2,b3] at E;rw[a1,a2];obtain⟨b9,e5,_⟩:=d2.out a (by omega);have O:=a8.len (a:=a) (g:=0) (by omega) q2a;have c6:(Bk.node N).out a 0=Jr N (a:Int) 0:=rfl;rw[c6] at O;have d0:=Lib.hid b9;have e7:=Lib.hid O;have E:=Lib.hid E;have c9:=Lib.hid b5;have c8:=Lib.hid b4;have b0:=Lib.hid a7;have HS:=Lib.hid hS;have Hn:=Lib.hid b7;clear a1 a2 a3 hp b3 hS b7 a7 b5 b4 b9 e5 O U M c6;go_enter Tryz.func232,Tryz.ntmps232
   go_wp2_with fail
   generalize w.alloc (.cells #[.int .i64 N.lvl,.slice A n c,.slice B F G] 77)=w1 at Z N1 z1 c0 c1 c2 t1 B1 L b8 b6 ⊢;refine (a0.out w1 B1).mono ?_;rintro e w2 ⟨rfl,J⟩;have u:=L.below J;go_wp2_with fail
   refine (E.out w2 u.ct).mono ?_;rintro e y ⟨rfl,C3,Y⟩;have z2:=J.size;have z3:=Y.size;have N2:=N1.below J (by omega);have e4:=Y.block p u.Iq λh=>(u.ne p h).1 rfl
   have e0:=Y.block m u.mlt λh=>(u.ne m h).2 rfl
   have B3:Turn S w y:=(Qu (S:=S) (Z.trans (J.mono (by omega)))).trans (Y.mono u.Yj.2.2) λk hk=>.inl hk
   have d8:¬Sc w.1.size:=λh=>by have:=hT _ (u.sub _ (u.Yj.2.2 _ h));omega
   have n3:=Y.block w.1.size N2.lt d8;have N3:NB y w.1.size N.lvl A n c B F G:=by
    obtain⟨t,h⟩:=N2;exact⟨t,n3.trans h⟩
   have e6:y.cell? ⟨p,40,none⟩=some (.map (some m)):=(World.cell?_of_block (a:=⟨p,40,none⟩) e4).trans u.c40;have t3:Tab y:=(t1.below J t1.1).turned Y λh=>hG (u.sub _ (u.Yj.2.2 _ h))
   have d7:w.1.size≠m:=λe=>by have h1:=hT m (u.sub _ u.Yj.2.1);omega
   have hF:∀w',Below y.1.size y w'->w'.cell? ⟨p,40,none⟩=some (.map (some m))/\w'.cell? ⟨w.1.size,0,none⟩=some (.int .i64 N.lvl)/\w'.cell? ⟨w.1.size,1,none⟩=some (.slice A n c)/\w'.cell? ⟨w.1.size,2,none⟩=some (.slice B F G):=λw' hb=>
    have N':=N3.below hb N3.lt;⟨(hb.cell (p:=⟨p,40,none⟩) (by show p<_;omega)).trans e6,N'.c0,N'.c1,N'.c2⟩
   have d4:∀w' (o:Obj),Below y.1.size y w'->(setBlock w' m o).cell? ⟨p,40,none⟩=some (.map (some m))/\(setBlock w' m o).cell? ⟨w.1.size,0,none⟩=some (.int .i64 N.lvl)/\(setBlock w' m o).cell? ⟨w.1.size,1,none⟩=some (.slice A n c)/\(setBlock w' m o).cell? ⟨w.1.size,2,none⟩=some (.slice B F G):=λw' o hb=>by
    have hz:=hb.size;have TB:Turn (λk=>k=m) w' (setBlock w' m o):=Rj _ rfl;obtain⟨h1,h2,h3,h4⟩:=hF w' hb;have e1:=TB.block p (by omega) u.p_m;have e2:=TB.block w.1.size (by omega) d7;exact⟨(World.cell?_of_block (a:=⟨p,40,none⟩) e1).trans h1,(World.cell?_of_block (a:=⟨w.1.size,0,none⟩) e2).trans h2,(World.cell?_of_block (a:=⟨w.1.size,1,none⟩) e2).trans h3,(World.cell?_of_block (a:=⟨w.1.size,2,none⟩) e2).trans h4⟩
   have BD:Below y.1.size y y.drew:=(Below.refl _ _).drew;have d1:=Lib.hid (λ(w':World) (hb:Below y.1.size y w') (v':Value)=>(congrArg (λz:Nat=>Result.ok () (setBlock w' m (.map (Zv (a:Int) v' clock l).toArray z))) (if_pos I.out)).subst (motive:=λr=>(Instr.mapUpdate 123 (.map (some m)) (.int .i64 (a:Int)) v').run Tryz.prog w'=r) (q1h L.ents Tryz.underlying123 Tryz.underlying3 ((hb.block m (by omega)).trans (e0.trans u.map)) (a:Int) v'));have BI:Turn S w y.drew:=B3.drew;go_wp2_with fail
   go_region_held3 (λw'=>w'.cell? ⟨p,40,none⟩=some (.map (some m))/\w'.cell? ⟨w.1.size,0,none⟩=some (.int .i64 N.lvl)/\w'.cell? ⟨w.1.size,1,none⟩=some (.slice A n c)/\w'.cell? ⟨w.1.size,2,none⟩=some (.slice B F G))
    (first|assumption|exact hF _ BD|exact hF _ a4|exact d4 _ _ a4)
    (first
     |(go_at_call 251;refine (qcb N (a:Int) 0 A n c B F G _ (a6 _ BI).1 (a6 _ BI).2 hn hm (t3.below BD t3.1)).mono ?_;rw[d0.out];rintro e w4 ⟨A3,n3,c3,rfl,W,d9,d6⟩;have a4:Below y.1.size y w4:=BD.trans d6;have e9:=d1.out w4 a4)
     |fail)
   obtain⟨q,rfl,rfl,rfl⟩:=d9 (by first|trivial|rfl);have hq:=(W.block ⟨q,0,none⟩ rfl).1;obtain⟨R1,R2⟩:=u.store (P':=P.lay (.node N)) (b:=.node N) Y C3 a4 Hn.out HS.out d5 c9.out c8.out b0.out W.sl (λh=>by have h1:=hT q h;have h2:y.drew.1.size=y.1.size:=rfl;have h3:y.drew.1.size<=q:=hq;omega);rw[if_pos I.out] at R1 R2;go_wp2;go_ret2;have BB:=Z.trans (J.mono (by omega));have X3:=(Qu (S:=S) BB).trans R2 λk hk=>.inl hk
   exact⟨rfl,R1,X3,ht.turned X3 λh=>hG (u.sub _ h)⟩
section
variable {b:Nat}{w:World}{d p:Nat}{S0 S T:Nat->Prop}{D:DM}{P:Pl}
theorem qcn (H:Qe b w d p S0 S T D P)(F:1<b)(E:Tab w)(N:Nd)(A:Option Addr)(n c:Nat)(B:Option Addr)(m k:Nat)(u:∀w',Turn S w w'->Jd w' A n c N.items/\Zp w' B m k N.kids)(hn:n<=1000)(hm:m<=1000) :
  Calls Tryz.prog 232 #[.pointer (some ⟨p,0,none⟩),.agg #[.int .i64 N.lvl,.slice A n c,.slice B m k]] w λe w'=>e=.returned (.tuple #[.int .i64 (P.Yw N),.int .i64 (P.Jo N)])/\Qe b w' d p S0 S T D (P.Jm N)/\Turn S w w'/\Tab w':=by
 refine (qed H.pool (λk f=>(H.tight k f).2) (λh=>by have:=(H.tight _ h).1;omega) N A n c B m k u hn hm E).mono ?_;rintro e w' ⟨rfl,R,X,t⟩;have G:=X.size;exact⟨rfl,⟨H.Ba.keep λk f y=>X.block k f (H.apart k y),R,H.sub,H.apart,λk f=>⟨(H.tight k f).1,by have:=(H.tight k f).2;omega⟩⟩,X,t⟩
end
end
structure Pl.tidy (P:Pl):Prop where
 kind:∀a b,P.L a=some b->b.kindOk
 laid:∀a:Nat,P.C.fresh (a:Int)=true->∃b,P.L a=some b
section
variable {P:Pl}
theorem qco {C:Ct}{c:Nat}{x:Int}(h0:C.get (c:Int)≠0){a:Nat}(h:(C.put c x).fresh (a:Int)=true):C.fresh (a:Int)=true:=by
 have f:a<C.n:=by
  obtain⟨n,e,hn⟩:=Uc (q2w h);rw[C.Zf] at hn;omega
 unfold Ct.fresh at h ⊢;rw[Oh C a f] at h;by_cases e:a=c
 ·subst e;rw[if_pos rfl] at h;rw[if_neg h0];split at h
  ·cases h
  ·exact h
 ·rw[if_neg e] at h;exact h
theorem Pl.tidy.Qj (h:P.tidy)(a:Int):Pl.tidy ⟨P.S,P.C.Qj a,P.L⟩:=by
 refine⟨h.kind,λc e=>h.laid c ?_⟩;have e:(P.C.Qj a).fresh (c:Int)=true:=e;unfold Ct.Qj at e;split at e
 ·exact e
 ·rename_i h0;obtain⟨n,rfl,hn⟩:=Uc h0;rw[Int.toNat_natCast] at e;exact qco h0 e
theorem Pl.tidy.ref (h:P.tidy)(a:Int):Pl.tidy ⟨P.S,P.C.ref a,P.L⟩:=by
 refine⟨h.kind,λc f=>h.laid c ?_⟩;have f:(P.C.ref a).fresh (c:Int)=true:=f;unfold Ct.ref at f;split at f
 ·rename_i u;have h0:P.C.get a≠0:=λe=>by unfold Ct.Yg at u;rw[if_pos e] at u;cases u
  obtain⟨n,rfl,hn⟩:=Uc h0;rw[Int.toNat_natCast] at f;exact qco h0 f
 ·exact f
theorem Pl.tidy.set (h:P.tidy)(a:Int)(N:Nd):(P.Vm a N).tidy:=by
 unfold Pl.Vm;split
 ·refine⟨λc x f=>?_,λc u=>?_⟩
  ·have f:upd P.L a.toNat (some (.node N)) c=some x:=f;by_cases e:c=a.toNat
   ·subst e;rw[q0n] at f;obtain rfl:=Option.some.inj f;exact trivial
   ·rw[Ag _ _ e] at f;exact h.kind c x f
  ·show ∃b,upd P.L a.toNat (some (.node N)) c=some b;by_cases e:c=a.toNat
   ·subst e;exact⟨_,q0n _ _ _⟩
   ·rw[Ag _ _ e];exact h.laid c u
 ·exact h
theorem Pl.tidy.put (h:P.tidy)(N:Nd):(P.Jm N).tidy:=by
 unfold Pl.Jm;split
 ·cases u:P.C.pick with
  |none=>rw[q9h u];exact h
  |some a=>
   have F:=(Ct.J4 u).2.2.1;have E:=(Ct.J4 u).1;refine⟨λc x y=>?_,λc f=>?_⟩
   ·rw[qfq u] at y;split at y
    ·obtain rfl:=Option.some.inj y;exact trivial
    ·exact h.kind c x y
   ·rw[qfq u];by_cases e:c=a
    ·exact⟨_,if_pos e⟩
    ·rw[if_neg e];refine h.laid c ?_;rw[q2n u] at f;have f:P.C.alloc.fresh (c:Int)=true:=f;rw[(Ct.Jh u).2.2] at f;have A:c<P.C.n:=by
      obtain⟨n,B,h2⟩:=Uc (q2w f);rw[P.C.Zf] at h2;omega
     unfold Ct.fresh at f ⊢;rw[Oh P.C c A,if_neg e] at f;exact f
 ·exact h
theorem Pl.tidy.leave {P':Pl}{s:Qs}(h:P.tidy)(hl:P.leave s=some P'):P'.tidy:=by
 unfold Pl.leave at hl;split at hl
 ·obtain rfl:=Option.some.inj hl;exact h
 ·split at hl
  ·obtain rfl:=Option.some.inj hl;exact h.Qj _
  ·cases hl
theorem qgc:∀(f:List Int) {P P':Pl},P.tidy->Ui f P=some P'->P'.tidy
 |[],P,P',h,e=>by obtain rfl:=Option.some.inj e;exact h
 |a::r,P,P',h,e=>by
  have e:(if P.C.Yg a=0 then Ui r ⟨P.S,P.C.ref a,P.L⟩ else none)=some P':=e;split at e
  ·exact qgc r (h.ref a) e
  ·cases e
theorem qav:∀(f:List Int) {P P':Pl},P.tidy->G8 f P=some P'->P'.tidy
 |[],P,P',h,e=>by obtain rfl:=Option.some.inj e;exact h
 |a::r,P,P',h,e=>by
  have e:(if P.C.Zh a=0 then G8 r ⟨P.S,P.C.Qj a,P.L⟩ else none)=some P':=e;split at e
  ·exact qav r (h.Qj a) e
  ·cases e
theorem Pl.tidy.Qv {P':Pl}{s:Qs}{i j:Nat}(h:P.tidy)(hl:P.Qv s i j=some P'):P'.tidy:=by
 unfold Pl.Qv at hl;split at hl
 ·exact qgc _ h hl
 ·split at hl
  ·obtain rfl:=Option.some.inj hl;exact h
  ·exact qav _ h hl
end
section
variable {b:Nat}{w w':World}{d p:Nat}{S0 S T S':Nat->Prop}{D:DM}{P P':Pl}
theorem Qe.grown (H:Qe b w d p S0 S T D P)(t:Turn S' w w')(hT:∀k,S' k->T k)(h0:∀k,S' k->¬S0 k)(h1:∀k,S' k->¬S k):Qe b w' d p S0 S (grow T w w') D P:=by
 have y:=H.base;have u:=H.Dv;have E:=t.size;have f:∀k,T k->grow T w w' k:=λk e=>⟨.inl e,by have:=(H.tight k e).2;omega⟩
 have A:Pool w p d S (grow T w w') P:=H.pool.mono (λk _ h=>h) (λk e h=>h.1.elim id λh=>by omega) λk h=>f k (u k h)
 exact⟨H.Ba.keep λk e B=>t.block k e λh=>h0 k h B,A.other t (λk e=>f k (hT k e)) h1,λk e=>f k (H.sub k e),H.apart,λk e=>⟨e.1.elim (λh=>(H.tight k h).1) λh=>by omega,e.2⟩⟩
theorem qn1 (H:Qe b w d p S0 S T D P)(G:1<b)(y:Tab w)(u:P.tidy)(a:Int)(N:Nd)(A:Option Addr)(n c:Nat)(B:Option Addr)(m f:Nat)(E:Jd w A n c N.items)(F:Zp w B m f N.kids)(hn:n<=1000)(hm:m<=1000) :
  Calls Tryz.prog 237 #[.pointer (some ⟨p,0,none⟩),.int .i64 a,.agg #[.int .i64 N.lvl,.slice A n c,.slice B m f]] w λe w'=>e=.returned (.int .i64 (P.Gl a N))/\Qe b w' d p S0 S T D (P.Vm a N)/\Turn S w w'/\Tab w':=by
 refine (qmt H.Ba H.pool u.kind u.laid (λk I=>(H.tight k I).2) (Below.refl _ _) a N A n c B m f E F hn hm y).mono ?_;rintro e w' ⟨rfl,R,X⟩;exact⟨rfl,H.step R X,X,H.tab G y X⟩
end
structure Ar (b:Nat)(w0 w:World)(d p:Nat)(S0 S T T':Nat->Prop)(D:DM)(P:Pl):Prop where
 sys:Qe b w d p S0 S T' D P
 sub:∀k,T k->T' k
 turn:Turn S w0 w
 tab:Tab w
 tidy:P.tidy
 base:1<b
 low:∀k,S0 k\/S k->k<w0.heap.size
 Qav:∀k,S0 k\/S k->T k
section
variable {b:Nat}{w0 w w':World}{d p:Nat}{S0 S T T' S':Nat->Prop}{D:DM}{P P':Pl}
theorem Ar.own (h:Ar b w0 w d p S0 S T T' D P)(t:Turn S' w w')(hS:∀k,S' k->T' k/\w0.1.size<=k):Ar b w0 w' d p S0 S T (grow T' w w') D P:=by
 have u:=t.size;exact⟨h.sys.grown t (λk e=>(hS k e).1) (λk e h0=>by have:=h.low k (.inl h0);have:=(hS k e).2;omega) (λk e h0=>by have:=h.low k (.inr h0);have:=(hS k e).2;omega),
  λk e=>⟨.inl (h.sub k e),by have:=(h.sys.tight k (h.sub k e)).2;omega⟩,h.turn.trans t λk e=>.inr (hS k e).2,h.tab.turned t λf=>by have:=(h.sys.tight _ (hS _ f).1).1;have:=h.base;omega,h.tidy,h.base,h.low,h.Qav⟩
theorem Ar.below (h:Ar b w0 w d p S0 S T T' D P)(hb:Below w.1.size w w'):Ar b w0 w' d p S0 S T (grow T' w w') D P:=h.own (Qu (S:=λ_=>False) hb) λ_ h=>h.elim
theorem Ar.mem (h:Ar b w0 w d p S0 S T T' D P){k:Nat}(hk:T' k)(hz:w.1.size<=w'.1.size):grow T' w w' k:=⟨.inl hk,by have:=(h.sys.tight k hk).2;omega⟩
theorem qud {k:Nat}(h1:w.1.size<=k)(h2:k<w'.1.size):grow T' w w' k:=⟨.inr h1,h2⟩
theorem Ar.step (h:Ar b w0 w d p S0 S T T' D P)(H:Qe b w' d p S0 S T' D P')(X:Turn S w w')(ht:Tab w')(hP:P'.tidy):Ar b w0 w' d p S0 S T T' D P':=⟨H,h.sub,h.turn.then X,ht,hP,h.base,h.low,h.Qav⟩
theorem Ar.start (H:Qe b w0 d p S0 S T D P)(hb:1<b)(ht:Tab w0)(hP:P.tidy):Ar b w0 w0 d p S0 S T T D P:=⟨H,λ_ h=>h,Turn.refl _ _,ht,hP,hb,λk e=>(H.tight k (e.elim (H.sub k) (H.Dv k))).2,λk e=>e.elim (H.sub k) (H.Dv k)⟩
theorem Ar.done (h:Ar b w0 w d p S0 S T T' D P):Qe b w d p S0 S T D P:=h.sys.less h.sub (λk e=>h.Qav k (.inl e)) λk e=>h.Qav k (.inr e)
theorem Ar.not (h:Ar b w0 w d p S0 S T T' D P){k:Nat}(hk:w0.1.size<=k):¬S k:=λe=>by have:=h.low k (.inr e);omega
end
section
variable {Q:World->Prop}{w w':World}{X:Option Addr}{k kc:Nat}{Ns:List Nd}
theorem q5q {s:Nat}{A:Option Addr}{n c:Nat}{xs:List (List Value)}(h:Js w s A n c xs){S:Nat->Prop}(T:Turn S w w')(f:∀k,q01 A=some k->¬S k):Js w' s A n c xs:=h.keep T.size λg o e u=>T.block g u (f g (by rw[e];rfl))
theorem G5.turned (h:G5 Q w X k kc Ns){S:Nat->Prop}(T:Turn S w w')(hA:∀k,q01 X=some k->¬S k):G5 Q w' X k kc Ns:=by
 obtain⟨e,h1,h2⟩:=h;exact⟨e,q5q h1 T hA,h2⟩
theorem G5.tail {N:Nd}{g o:Nat}(h:G5 Q w (some ⟨g,o,none⟩) k kc (N::Ns)):∃y,(if kc=1 then (some ⟨g,o,none⟩:Option Addr) else Option.map (λx:Addr=>x.add 3) (some ⟨g,o,none⟩))=some ⟨g,y,none⟩/\G5 Q w (some ⟨g,y,none⟩) (k-1) (kc-1) Ns/\1<=k/\1<=kc:=by
 have B:=h.len;rw[List.length_cons] at B;obtain⟨f,h1,h2,A⟩:=h;have hd:=h1.drop (k:=1) (by omega);have F:=h1.cap;refine⟨if kc=1 then o else o+3,by split<;>rfl,⟨f.drop 1,?_,by rw[List.length_drop,h2,List.length_cons];omega,λj r x u E=>A (j+1) r x (by rw[List.getElem?_drop] at u;rw[show j+1=1+j by omega];exact u) (by rw[List.getElem?_cons_succ];exact E)⟩,by omega,by omega⟩;by_cases e:kc=1
 ·rw[if_pos e] at hd ⊢;exact hd
 ·rw[if_neg e] at hd ⊢;exact hd
theorem Vd.turned {ss:List Qs}(h:Vd Q w X k kc ss){S:Nat->Prop}(T:Turn S w w')(hA:∀k,q01 X=some k->¬S k):Vd Q w' X k kc ss:=by
 obtain⟨e,h1,h2⟩:=h;exact⟨e,q5q h1 T hA,h2⟩
end
theorem q78 {w:World}{base n c:Nat}{A:Option Addr}{ks:List Qm}{o:Oper}{a:Act}{K:Act->World->Prop}{G:Exit->Act->World->Prop}(F x:Operand)
  (J:o.op=.call { callee:=.builtin .append,args:=#[F,x],argTypes:=#[75,75] })
  (M:a.eval F=.slice A n c) (u:Vx w base A n c ks) {B:Option Addr} {d:Nat} (O:a.eval x=.slice B 1 d) {l:Qm} (U:Zp w B 1 d [l]) (hn:n<=1000) (e:base<=w.1.size)
  (h:∀f E w',Vx w' base f (n+1) E (ks++[l])->Turn (λk=>q01 A=some k) w w'->(q01 f=q01 A\/q01 f=some w.1.size)->K (a.put o.dst (.slice f (n+1) E)) w'):Oper.wp Tryz.prog o a w K G:=by
 obtain⟨f,E,w',y,h2,H,I⟩:=qkl (ty:=o.type) u U (by omega) e;unfold Oper.wp execOp;simp only[J,resolve,invoke,builtin,Sem.run_bind,Sem.run_pure,Result.andThen_ok,List.map_toArray,List.map_cons,List.map_nil,M,O,y];exact h f E w' h2 H I
theorem qqj (w:World)(x:Qm):Zp (w.alloc (.cells x.vs.toArray 148)) (some ⟨w.1.size,0,none⟩) 1 1 [x]:=(q1q w 148 4 x.vs _ rfl rfl).Kt (by omega)
section
variable {s:Qs}{olds:List Qs}{P:Pl}{ks:List Qm}{R:Pl × List Nd × List Qm}{b:Nd}{rest:List Nd}
theorem qaw (h:Gh (s::olds) P [] ks=some R):∃P',P.leave s=some P'/\Gh olds P' [] ks=some R:=by
 unfold Gh at h;split at h
 ·rename_i P' e;exact⟨P',e,h⟩
 ·cases h
theorem q4e (f:s.shared=true\/P.C.fresh s.addr=false)(h:Gh (s::olds) P (b::rest) ks=some R):∃P',P.leave s=some P'/\Gh olds P' (b::rest) ks=some R:=by
 unfold Gh at h;rw[if_pos f] at h;split at h
 ·rename_i P' e;exact⟨P',e,h⟩
 ·cases h
theorem qax (h1:s.shared=false)(h2:P.C.fresh s.addr=true)(h:Gh (s::olds) P (b::rest) ks=some R):P.Gl s.addr b=0/\Gh olds (P.Vm s.addr b) rest (ks++[⟨b.least,s.addr⟩])=some R:=by
 unfold Gh at h;rw[if_neg (by rw[h1,h2];simp)] at h;split at h
 ·rename_i e;exact⟨e,h⟩
 ·cases h
theorem qay {R:Pl × Option (List Qm)}(h:J8 (b::rest) P ks=some R):(P.Jo b=0/\J8 rest (P.Jm b) (ks++[⟨b.least,P.Yw b⟩])=some R)\/(P.Jo b=6/\R=(P.Jm b,none)):=by
 unfold J8 at h;split at h
 ·rename_i e;exact .inl ⟨e,h⟩
 ·split at h
  ·rename_i e;exact .inr ⟨e,(Option.some.inj h).symm⟩
  ·cases h
end
theorem que {e:List Qs}{j:Nat}(h:j<e.length):e.drop j=Yx e j::e.drop (j+1):=by
 rw[List.drop_eq_getElem_cons h];unfold Yx;rw[List.getD_eq_getElem?_getD,List.getElem?_eq_getElem h];rfl
theorem qxj {f:List Nd}{j:Nat}(h:j<f.length):f.drop j=Ae f j::f.drop (j+1):=by
 have e:=q6r h;rw[List.getElem?_eq_getElem h] at e;rw[List.drop_eq_getElem_cons h,Option.some.inj e]
structure Si (w0 w:World)(p:Nat)(V:List Value)(lv:Int)(K:Option Addr)(n c:Nat):Prop where
 t:RB w w0.heap.size [.pointer (some ⟨p,0,none⟩)]
 x:RB w (w0.heap.size+1) V
 r:NB w (w0.heap.size+2) 0 none 0 0 none 0 0
 k:NB w (w0.heap.size+3) lv none 0 0 K n c
theorem Si.turned {w0 w w':World}{p:Nat}{V:List Value}{lv:Int}{K:Option Addr}{n c:Nat}(h:Si w0 w p V lv K n c){S:Nat->Prop}(T:Turn S w w')(hS:∀k,S k->k<w0.1.size\/w0.1.size+4<=k):Si w0 w' p V lv K n c:=
 ⟨h.t.turned T λe=>by have:=hS _ e;omega,h.x.turned T λe=>by have:=hS _ e;omega,h.r.turned T λe=>by have:=hS _ e;omega,h.k.turned T λe=>by have:=hS _ e;omega⟩
structure U1 (b:Nat)(w0 wp w:World)(d p:Nat)(S0 S T:Nat->Prop)(D:DM)(V:List Value)(lv:Int)(P:Pl)(X:Option Addr)(m mc:Nat)(rest:List Nd)(K:Option Addr)(n c:Nat)(ks:List Qm)(T':Nat->Prop):Prop where
 l:Ar b w0 w d p S0 S T T' D P
 o:Si w0 w p V lv K n c
 row:G5 (Turn S w0) w X m mc rest
 kids:Vx w wp.heap.size K n c ks
 own:∀g,w0.heap.size<=g->g<wp.heap.size->T' g
 Nk:∀g,q01 X=some g->w0.heap.size+4<=g/\g<wp.heap.size
 Qax:∀g,q01 K=some g->T' g
 fit:∀N∈rest,N.fit
section
variable {b:Nat}{w0 wp w w':World}{d p:Nat}{S0 S T T':Nat->Prop}{D:DM}{V:List Value}{lv:Int}{P P':Pl}{X:Option Addr}{m mc:Nat}{rest:List Nd}{K:Option Addr}{n c:Nat}{ks:List Qm}
theorem U1.next (h:U1 b w0 wp w d p S0 S T D V lv P X m mc rest K n c ks T'){T2:Nat->Prop}(L:Ar b w0 w' d p S0 S T T2 D P')(hT:∀k,T' k->T2 k)(X2:Turn S w w')(hz:w0.1.size+4<=wp.1.size):U1 b w0 wp w' d p S0 S T D V lv P' X m mc rest K n c ks T2:=by
 have f:=h.l.low;refine⟨L,h.o.turned X2 λk u=>.inl (f k (.inr u)),h.row.turned X2 λg e=>h.l.not (by have:=h.Nk g e;omega),h.kids.turned X2 λg e=>h.l.not (by have:=(h.kids.Qc g e).1;omega),λg h1 h2=>hT g (h.own g h1 h2),h.Nk,λg e=>hT g (h.Qax g e),h.fit⟩
theorem U1.below (h:U1 b w0 wp w d p S0 S T D V lv P X m mc rest K n c ks T')(hb:Below w.1.size w w')(hz:w0.1.size+4<=wp.1.size):U1 b w0 wp w' d p S0 S T D V lv P X m mc rest K n c ks (grow T' w w'):=
 h.next (h.l.below hb) (λ_ e=>h.l.mem e hb.size) (Qu hb) hz
theorem U1.more (h:U1 b w0 wp w d p S0 S T D V lv P X m mc rest K n c ks T')(hz:w0.1.size+4<=wp.1.size){w5 w6:World}(hb:Below w.1.size w w5){K6:Option Addr}{c6:Nat}{x:Qm}(k6:Vx w6 wp.1.size K6 (n+1) c6 (ks++[x]))(T6:Turn (λg=>q01 K=some g) w5 w6)(hK:q01 K6=q01 K\/q01 K6=some w5.1.size) :
  U1 b w0 wp (w6.setCell ⟨w0.1.size+3,2,none⟩ (.slice K6 (n+1) c6)) d p S0 S T D V lv P X m mc rest K6 (n+1) c6 (ks++[x]) (grow T' w (w6.setCell ⟨w0.1.size+3,2,none⟩ (.slice K6 (n+1) c6))):=by
 have B:Turn (λg=>g=w0.1.size+3) w6 (w6.setCell ⟨w0.1.size+3,2,none⟩ (.slice K6 (n+1) c6)):=Dy (a:=⟨w0.1.size+3,2,none⟩) _ rfl;have E:=h.kids.Qc;have A:=h.own;have W:=h.o.t.lt;have M:=h.o.x.lt;have O:=h.o.r.lt;have U:=h.o.k.lt;have Y:=hb.size;have Z:=T6.size;have s7:=B.size;have F:Turn (λg=>g=w0.1.size+3\/q01 K=some g) w (w6.setCell ⟨w0.1.size+3,2,none⟩ (.slice K6 (n+1) c6)):=
  ((Qu (S:=λg=>g=w0.1.size+3\/q01 K=some g) hb).trans T6 λg f=>.inl (.inr f)).trans B λg f=>.inl (.inl f)
 have y:Turn (λg=>q01 K=some g) w w6:=(Qu (S:=λg=>q01 K=some g) hb).trans T6 λg f=>.inl f
 have H:=h.o.t.turned y (λu=>by have:=(E _ u).1;omega);have I:=h.o.x.turned y (λu=>by have:=(E _ u).1;omega);have G:=h.o.r.turned y (λu=>by have:=(E _ u).1;omega);have J:=h.o.k.turned y (λu=>by have:=(E _ u).1;omega);refine⟨h.l.own F λg f=>f.elim (λe=>⟨A g (by omega) (by omega),by omega⟩) λe=>⟨h.Qax g e,by have:=(E g e).1;omega⟩,
  ⟨H.keep (B.block _ H.lt (by show ¬w0.1.size=w0.1.size+3;omega)),I.keep (B.block _ I.lt (by show ¬w0.1.size+1=w0.1.size+3;omega)),G.keep (B.block _ G.lt (by show ¬w0.1.size+2=w0.1.size+3;omega)),J.set2 _ _ _⟩,
  h.row.turned F λg f u=>by
   have:=h.Nk g f;exact u.elim (λe=>by omega) λe=>by have:=(E g e).1;omega,
  k6.turned B λg f u=>by have u:g=w0.1.size+3:=u;have:=(k6.Qc g f).1;omega,
  λg h1 h2=>h.l.mem (A g h1 h2) (by omega),h.Nk,λg f=>?_,h.fit⟩
 rcases hK with e|e
 ·exact h.l.mem (h.Qax g (e▸f)) (by omega)
 ·rw[e] at f;obtain rfl:=Option.some.inj f;have:=(k6.Qc _ e).2;exact⟨.inr (by omega),by omega⟩
theorem U1.tail {M:Nd}{g o:Nat}(h:U1 b w0 wp w d p S0 S T D V lv P (some ⟨g,o,none⟩) m mc (M::rest) K n c ks T'):∃f,(if mc=1 then some (⟨g,o,none⟩:Addr) else some ⟨g,o+3,none⟩)=some ⟨g,f,none⟩/\U1 b w0 wp w d p S0 S T D V lv P (some ⟨g,f,none⟩) (m-1) (mc-1) rest K n c ks T':=by
 obtain⟨f,e,y,_,_⟩:=h.row.tail;exact⟨f,e,h.l,h.o,y,h.kids,h.own,h.Nk,h.Qax,λN u=>h.fit N (List.mem_cons_of_mem _ u)⟩
end
section
variable {b:Nat}{w w1:World}{d p:Nat}{S0 S T:Nat->Prop}{D:DM}{P:Pl}
end
def Tt:DM:=(DM.mk0 256).Qx (Xq 256)
structure Qc6 (b:Nat)(w:World)(d p:Nat)(D:DM)(P:Pl)(root:Int)(its:List Qg):Prop where
 sys:∃S0 S T,Qe b w d p S0 S T D P
 Ze:Wy D P (fmtS 256) (Ct.zero 256)
 tree:Zl (P.store D) root its
 n:P.C.n=256
 S:P.S=fmtS 256
structure Qc5 (w0:World)(d p:Nat)(S0 S:Nat->Prop)(its:List Qg)(f l:Nat)(nv lv:Value)(w:World)(P:Pl)(Ns:List Nd):Prop where
 lvl:Lvl Tt its f l P Ns
 fuel:l+f=5
 Gx:∃L:Nat,L=l+1/\lv=.int .i64 (L:Int)
 rows:∃wl A c,nv=.slice A Ns.length c/\Qb6 (Turn S wl) w wl.heap.size A Ns.length c Ns/\Turn S wl w/\(∀k,S k->k<wl.heap.size)
 sys:∃T,Qe w0.heap.size w d p S0 S T Tt P
 Ze:Wy Tt P (fmtS 256) (Ct.zero 256)
 tab:Tab w
 low:Below w0.heap.size w0 w
 n:P.C.n=256
 S:P.S=fmtS 256
def Yk (vs:List (Int × Nd)):Nd:=(vs.getLast?.map (·.2)).getD Zk
def qiq (k:Kd)(N:Nd):List UInt8 × Int:=if Kz N.keys k (N.Zb k)=true then ((Qz N.items (N.Zb k)).v,0) else ([],10)
theorem qcp (vs:List (Int × Nd))(x:Int × Nd):Yk (vs++[x])=x.2:=by unfold Yk;simp
theorem qcq {x:Int × Nd}{vs:List (Int × Nd)}(h:vs≠[]):Yk (x::vs)=Yk vs:=by
 unfold Yk;rw[List.getLast?_cons_of_ne_nil h]
theorem qkp {R:Int->Nd × Int}{k:Kd}:∀{l:Nat} {a:Int},(Zy R k l a).2=0->(Zy R k l a).1≠[]
 |0,a,h=>by
  unfold Zy at h ⊢;split at h
  ·rename_i h1;exact absurd h h1
  ·rename_i h1;rw[if_neg h1];split at h
   ·cases h
   ·rename_i h2;rw[if_neg h2];simp
 |l+1,a,h=>by
  unfold Zy at h ⊢;split at h
  ·rename_i h1;exact absurd h h1
  ·rename_i h1;rw[if_neg h1];split at h
   ·cases h
   ·rename_i h2;rw[if_neg h2];simp
theorem qkq {R:Int->Nd × Int}{k:Kd}:∀(l:Nat) (a:Int),Ac R k l a=if (Zy R k l a).2≠0 then ([],(Zy R k l a).2) else qiq k (Yk (Zy R k l a).1)
 |0,a=>by
  by_cases h1:(R a).2=0
  ·by_cases h2:(R a).1.lvl=0
   ·have f:R a=((R a).1,0):=Prod.ext rfl h1;rw[q87 f h2];unfold Ac;rw[if_neg (by simpa using h1),if_neg (by simpa using h2)];rfl
   ·rw[q4x h1 0 (by simpa using h2)];unfold Ac;rw[if_neg (by simpa using h1),if_pos h2];rfl
  ·rw[q3l h1];unfold Ac;rw[if_pos h1,if_pos h1]
 |l+1,a=>by
  by_cases h1:(R a).2=0
  ·by_cases h2:(R a).1.lvl=((l+1:Nat):Int)
   ·have f:R a=((R a).1,0):=Prod.ext rfl h1;rw[q88 f h2];unfold Ac;rw[if_neg (by simpa using h1),if_neg (by simpa using h2),qkq l _];dsimp only;by_cases e:(Zy R k l (Qh (R a).1.kids ((R a).1.Zb k)).a).2=0
    ·rw[if_neg (by simpa using e),if_neg (by simpa using e),qcq (qkp e)]
    ·rw[if_pos e,if_pos e]
   ·rw[q4x h1 (l+1) h2];unfold Ac;rw[if_neg (by simpa using h1),if_pos h2];rfl
  ·rw[q3l h1];unfold Ac;rw[if_pos h1,if_pos h1]
theorem qqk (R:Int->Nd × Int)(k:Kd)(root:Int):Ia R k root=if (Yi R k root).2≠0 then ([],(Yi R k root).2) else qiq k (Yk (Yi R k root).1):=by
 unfold Ia Yi;by_cases h:root=0
 ·rw[if_pos h,if_pos h];rfl
 ·rw[if_neg h,if_neg h,qkq]
theorem qcr {R:Int->Nd × Int}{k:Kd}(hm:∀a,(R a).2=0->(R a).1.may=true):∀{l:Nat} {a:Int},(Zy R k l a).2=0->(Yk (Zy R k l a).1).lvl=0/\(Yk (Zy R k l a).1).may=true
 |0,a,h=>by
  by_cases h1:(R a).2=0
  ·by_cases h2:(R a).1.lvl=0
   ·have e:R a=((R a).1,0):=Prod.ext rfl h1;rw[q87 e h2];exact⟨h2,hm a h1⟩
   ·rw[q4x h1 0 (by simpa using h2)] at h
    cases h
  ·rw[q3l h1] at h;exact absurd h h1
 |l+1,a,h=>by
  by_cases h1:(R a).2=0
  ·by_cases h2:(R a).1.lvl=((l+1:Nat):Int)
   ·have e:R a=((R a).1,0):=Prod.ext rfl h1;rw[q88 e h2] at h ⊢;have:=qcr hm h;rw[qcq (qkp h)];exact this
   ·rw[q4x h1 (l+1) h2] at h
    cases h
  ·rw[q3l h1] at h;exact absurd h h1
theorem qn2 {R:Int->Nd × Int}{k:Kd}(hm:∀a,(R a).2=0->(R a).1.may=true){root:Int}(h:(Yi R k root).2=0):(Yk (Yi R k root).1).lvl=0/\(Yk (Yi R k root).1).fit/\(Kz (Yk (Yi R k root).1).keys k ((Yk (Yi R k root).1).Zb k)=true->(Yk (Yi R k root).1).Zb k<(Yk (Yi R k root).1).items.length):=by
 unfold Yi at h ⊢;by_cases h0:root=0
 ·rw[if_pos h0];exact⟨rfl,⟨λ_=>rfl,λ_=>rfl⟩,λh=>by cases h⟩
 ·rw[if_neg h0] at h ⊢;obtain⟨h1,h2⟩:=qcr hm h;have f:=q1n h2;refine⟨h1,f,λh=>?_⟩;unfold Kz at h;rw[Bool.and_eq_true] at h;have e:=of_decide_eq_true h.1;have u:∀N:Nd,N.kids=[]->N.keys.length=N.items.length:=λN y=>by unfold Nd.keys;rw[y];simp
  rw[u _ (f.1 h1)] at e;exact e
def GInv (w0:World)(e:Nat)(vs:List (Int × Nd))(T:Nat->Prop)(w:World):Prop:=
 ∃(lo f:Nat) (A:Option Addr) (n c:Nat) (B:Option Addr) (m d:Nat),NB w e (Yk vs).lvl A n c B m d/\Held w lo f A n c B m d (Yk vs)/\(e<lo\/f<=e)/\w0.1.size<=e/\w0.1.size<=lo/\∀k,T k↔k=e\/(lo<=k/\k<f)
theorem qn3 {w:World}{f:Nat}(a:Int)(M:Nd)(A:Option Addr)(n c:Nat)(B:Option Addr)(m d:Nat){l:Int}{E F:Option Addr}{U c0 O J:Nat}(N:NB w f l E U c0 F O J) :
  Calls Tryz.prog 119 #[.int .i64 a,.agg #[.int .i64 M.lvl,.slice A n c,.slice B m d],.pointer (some ⟨f,0,none⟩)] w λe w'=>e=.returned (.tuple #[])/\NB w' f M.lvl A n c B m d/\Turn (λk=>k=f) w w':=by
 have y:Below w.1.size w (w.alloc (.cells #[.int .i64 M.lvl,.slice A n c,.slice B m d] 77)):=Qn;have G:=N.below y N.lt;have u:NB (w.alloc (.cells #[.int .i64 M.lvl,.slice A n c,.slice B m d] 77)) w.1.size M.lvl A n c B m d:=NB.new w _ _ _ _ _ _ _ _;have W:=u.c0;have Y:=u.c1;have Z:=u.c2;go_enter Tryz.func119,Tryz.ntmps119
 go_wp2_with (first
  |(refine Ub rfl (.tmp 2) _ rfl f rfl M.lvl A n c B m d rfl G ?_;intro w2 H I)
  |fail)
 go_end0
 exact⟨rfl,H,(Qu (S:=λk=>k=f) y).trans I λ_ h=>.inl h⟩
theorem qql {w0:World}{u:Nat}:Visit w0 119 #[.pointer (some ⟨u,0,none⟩)] (GInv w0 u) where
 ent:=λ_ _=>by kernel_rfl
 in_:=λh k y=>by
  obtain⟨lo,E,A,n,c,B,m,d,N,H,h1,h2,F,f⟩:=h;have:=N.lt;have:=H.1;rcases (f k).1 y with rfl|⟨h5,h6⟩
  ·exact⟨h2,N.lt⟩
  ·omega
 keep:=λh t J=>by
  obtain⟨lo,E,A,n,c,B,m,d,N,H,h1,h2,F,f⟩:=h;exact⟨lo,E,A,n,c,B,m,d,N.turned t λh=>J _ h ((f u).2 (.inl rfl)),H.turn t λk a b h=>J _ h ((f k).2 (.inr ⟨a,b⟩)),h1,h2,F,f⟩
 call:=λ{vs T w lo E a M A n c B m d} h O hd I _=>by
  obtain⟨Y,W,Z,n0,c0,B0,m0,d0,N,H,h1,h2,F,f⟩:=h;refine (qn3 a M A n c B m d N).mono ?_;rintro e w' ⟨rfl,U,X⟩;have G:¬(lo<=u/\u<E):=λh=>hd u h.1 h.2 ((f u).2 (.inl rfl))
  refine⟨rfl,λk=>k=u\/(lo<=k/\k<E),⟨lo,E,A,n,c,B,m,d,by rw[qcp];exact U,by rw[qcp];exact O.turn X (λk a b h=>G ⟨by rw[<-h];exact a,by rw[<-h];exact b⟩),by omega,h2,I,λ_=>Iff.rfl⟩,X.mono λk y=>(f k).2 (.inl y),λk y=>?_⟩;rcases y with rfl|y
  ·exact .inl ((f k).2 (.inl rfl))
  ·exact .inr (.inr y)
theorem qqm (w:World):Held w w.1.size w.1.size none 0 0 none 0 0 Zk:=
 ⟨Nat.le_refl _,by omega,by omega,λw' _ _=>⟨Pq _ _,q9m _,λj e=>absurd e (Nat.not_lt_zero _)⟩⟩
theorem qir {w:World}{p:Nat}{R:Int->Nd × Int}(H:Src w p R)(ht:Tab w)(root:Int) :
  Calls Tryz.prog 193 #[.pointer (some ⟨p,0,none⟩),.int .i64 root] w λe w'=>e=.returned (.tuple #[.int .i64 (Ib R root).1,.int .i64 (Ib R root).2])/\Below w.1.size w w':=by
 obtain⟨G,f⟩:∃G,Ib R root=G:=⟨_,rfl⟩;rw[f];unfold Ib at f;by_cases h0:root=0
 ·rw[if_pos h0] at f;subst h0;subst f;go_enter Tryz.func193,Tryz.ntmps193
  go_wp2_with fail
  go_ret2;exact⟨rfl,Below.refl _ _⟩
 ·rw[if_neg h0] at f;have O:=Lib.hid (H.node w (Below.refl _ _) ht root);have hm:=H.may root;obtain⟨M,E,hR⟩:∃M E,R root=(M,E):=⟨_,_,rfl⟩;rw[hR] at f O hm;dsimp only at f hm;have g3:(root==0)=false:=by simp[h0]
  have g4:decide (root=0)=false:=decide_eq_false h0;clear hR h0;by_cases F:E=0
  ·subst F;rw[if_neg (by simp)] at f;have hl:0<=M.lvl/\M.lvl<8:=by
    by_cases h1:M.lvl=0
    ·omega
    ·have:=Fe (hm rfl) h1;omega
   obtain⟨a2,a3⟩:=hl;subst f;clear hm;go_enter Tryz.func193,Tryz.ntmps193
   go_wp2_with fail
   refine O.out.mono ?_;rintro e u ⟨I,n1,c1,J,m1,Y,rfl,a1,a0,Z,y,A⟩;have U:NB (u.alloc (.cells #[.int .i64 0,.slice none 0 0,.slice none 0 0] 77)) u.1.size 0 none 0 0 none 0 0:=NB.new u _ _ _ _ _ _ _ _;have B:Below u.1.size u (u.alloc (.cells #[.int .i64 0,.slice none 0 0,.slice none 0 0] 77)):=Qn;clear Z y;go_wp2_with (first
    |(refine Ub rfl (.tmp 6) _ rfl u.1.size rfl M.lvl I n1 c1 J m1 Y rfl U ?_;intro w4 N4 W;have q0:=N4.c0)
    |fail)
   go_ret2;have hz:=A.size;exact⟨rfl,A.trans ((B.mono hz).trans (W.below (λk hk=>by have:k=u.1.size:=hk;omega) (by have:=B.size;omega)))⟩
  ·rw[if_pos F] at f;subst f;have g1:(E==0)=false:=by simp[F]
   have g2:(E != 0)=true:=by simp[F]
   clear F hm;go_enter Tryz.func193,Tryz.ntmps193
   go_wp2_with fail
   refine O.out.mono ?_;rintro e u ⟨I,n1,c1,J,m1,Y,rfl,a1,a0,Z,y,A⟩;have U:NB (u.alloc (.cells #[.int .i64 0,.slice none 0 0,.slice none 0 0] 77)) u.1.size 0 none 0 0 none 0 0:=NB.new u _ _ _ _ _ _ _ _;have B:Below u.1.size u (u.alloc (.cells #[.int .i64 0,.slice none 0 0,.slice none 0 0] 77)):=Qn;clear Z y;go_wp2_with (first
    |(refine Ub rfl (.tmp 6) _ rfl u.1.size rfl M.lvl I n1 c1 J m1 Y rfl U ?_;intro w4 N4 W)
    |fail)
   go_ret2;have hz:=A.size;exact⟨rfl,A.trans ((B.mono hz).trans (W.below (λk hk=>by have:k=u.1.size:=hk;omega) (by have:=B.size;omega)))⟩
structure Told (w:World)(p:Nat)(R:Int->Nd × Int)(root:Int)(its:List Qg):Prop where
 src:Src w p R
 tree:Zl R root its
 Qk:Qk its
 len:its.length<=150
section
variable {w:World}{p:Nat}{R:Int->Nd × Int}{root:Int}{its:List Qg}
end
theorem Jt.cellV {w:World}{base n c:Nat}{A:Option Addr}{xs:List Qg}(h:Jt w base A n c xs){j:Nat}(hj:j<n):∃b o V p q,A=some ⟨b,o,none⟩/\b<w.1.size/\w.cell? ⟨b,o+j*4+3,none⟩=some (.slice V p q)/\Sl w V p q (Qz xs j).v/\((Qz xs j).v≠[]->∀g,q01 V=some g->base<=g):=by
 have I:=h.J5.len;obtain⟨f,h1,h2,G⟩:=h;have F:f[j]?=some (f[j]'(by omega)):=List.getElem?_eq_getElem (by omega);obtain⟨B,m,d,e,H,y⟩:=G j _ _ F (q1x (by omega));obtain⟨g,o,rfl,u,_,E⟩:=(h1.Kt (by omega)).2.2.2 j _ F;rw[e] at E;exact⟨g,o,B,m,d,rfl,u,E 3 _ rfl,H,λh g u=>(y h g u).1⟩
theorem quf {w:World}{p:Nat}{R:Int->Nd × Int}(H:Src w p R)(ht:Tab w)(root:Int)(k:Kd) :
  Calls Tryz.prog 71 #[.pointer (some ⟨p,0,none⟩),.int .i64 root,.agg #[.int .i64 k.obj,.int .i64 k.kind,.int .i64 k.off]] w λe w'=>∃A n c,e=.returned (.tuple #[.slice A n c,.int .i64 (Ia R k root).2])/\Sl w' A n c (Ia R k root).1/\((Ia R k root).1≠[]->∀g,q01 A=some g->w.1.size<=g)/\Below w.1.size w w':=by
 have U:KB ((w.alloc (.cells #[.int .i64 k.obj,.int .i64 k.kind,.int .i64 k.off] 45)).alloc (.cells #[.int .i64 0,.slice none 0 0,.slice none 0 0] 77)) w.1.size k:=(KB.new w k.obj k.kind k.off _).below (Qn) (by simp);have N1:NB ((w.alloc (.cells #[.int .i64 k.obj,.int .i64 k.kind,.int .i64 k.off] 45)).alloc (.cells #[.int .i64 0,.slice none 0 0,.slice none 0 0] 77)) (w.1.size+1) 0 none 0 0 none 0 0:=NB.new2 w _ _ _ _ _ _ _ _ _;have b1:Below w.1.size w ((w.alloc (.cells #[.int .i64 k.obj,.int .i64 k.kind,.int .i64 k.off] 45)).alloc (.cells #[.int .i64 0,.slice none 0 0,.slice none 0 0] 77)):=(Qn).alloc (by simp) _;have z1:((w.alloc (.cells #[.int .i64 k.obj,.int .i64 k.kind,.int .i64 k.off] 45)).alloc (.cells #[.int .i64 0,.slice none 0 0,.slice none 0 0] 77)).1.size=w.1.size+2:=by simp
 have J:=Lib.hid (qqk R k root);have hL:=Lib.hid (λh=>qn2 (k:=k) (root:=root) H.may h);obtain⟨F,hF⟩:∃F,Yi R k root=F:=⟨_,rfl⟩;obtain⟨G,a0⟩:∃G,Ia R k root=G:=⟨_,rfl⟩;rw[hF] at J hL;rw[a0] at J ⊢;have HF:=Lib.hid hF;clear hF a0;have k0:=U.c0;have k1:=U.c1;have k2:=U.c2;go_enter Tryz.func71,Tryz.ntmps71
 go_wp2_with fail
 generalize (w.alloc (.cells #[.int .i64 k.obj,.int .i64 k.kind,.int .i64 k.off] 45)).alloc (.cells #[.int .i64 0,.slice none 0 0,.slice none 0 0] 77)=w1 at U N1 b1 z1 k0 k1 k2 ⊢;have I1:GInv w (w.1.size+1) [] (λk=>k=w.1.size+1) w1:=⟨w1.1.size,w1.1.size,none,0,0,none,0,0,N1,qqm w1,.inl (by omega),by omega,by omega,λk=>⟨.inl,λh=>h.elim id λh=>by omega⟩⟩;refine (qpz H qql b1 ht root k _ I1).mono ?_;rw[HF.out];rintro e w2 ⟨rfl,T,⟨lo,hi,A,n,c,B,m,d,W,Hd,-,-,a5,-⟩,Z,X2⟩;have K2:=U.keep (X2.block _ U.lt (by show ¬w.1.size=w.1.size+1;omega));clear k0 k1 k2 I1;obtain⟨M,hM⟩:∃M,Yk F.1=M:=⟨_,rfl⟩;obtain⟨E,hE⟩:∃E,F.2=E:=⟨_,rfl⟩;rw[hM] at W Hd;rw[hM,hE] at J hL;rw[hE];clear hM hE HF;by_cases h0:E=0
 ·subst h0;obtain⟨-,I,u⟩:=hL.out rfl;have f:=J.out;rw[if_neg (by simp)] at f;obtain⟨t,y⟩:∃t,M.Zb k=t:=⟨_,rfl⟩;obtain⟨r,hr⟩:∃r,Kz M.keys k t=r:=⟨_,rfl⟩;obtain⟨r2,s2⟩:=Hd.rows;have O:M.items.length=n:=r2.J5.len;have Y:=Lib.hid (q28 M I k t y r hr A n c B m d w2 r2.J5 s2 (by have:=Hd.2.1;omega) (by have:=Hd.2.2.1;omega));have p0:=W.c0;have p1:=W.c1;have p2:=W.c2;have k0:=K2.c0;have k1:=K2.c1;have k2:=K2.c2;unfold qiq at f;rw[y,hr] at f;rw[y,hr,O] at u;have u:=Lib.hid u;have O:=Lib.hid O;clear I J hL y hr r2 s2
  cases r with
  |false=>
   rw[if_neg (by simp)] at f;subst f;go_wp2_with fail
   refine Y.out.mono ?_;rintro e w3 ⟨rfl,b3⟩;clear p0 p1 p2 k0 k1 k2;go_wp2_with fail
   go_ret2;exact⟨none,0,0,rfl,Np _,Z.trans (b3.mono Z.size)⟩
  |true=>
   rw[if_pos rfl] at f;have a3:=u.out rfl;have Hg:=Lib.hid f;clear f;go_wp2_with fail
   refine Y.out.mono ?_;rintro e w3 ⟨rfl,b3⟩;have q1:=(W.below b3 W.lt).c1;clear p0 p1 p2 k0 k1 k2;obtain⟨r3,-⟩:=(Hd.below b3).rows;obtain⟨g,o,V,a,b,rfl,hg,y3,hs,a1⟩:=r3.cellV a3;have a2:=Lib.hid a1;clear a1;have e0:(0:Int)<=(t:Int):=by omega
   have e1:(t:Int)<(n:Int):=by omega
   obtain⟨_,a4⟩:=r3.J5.bounds;clear r3;go_wp2_with fail
   go_ret2;refine⟨V,a,b,by rw[Hg.out];rfl,by rw[Hg.out];exact hs,by rw[Hg.out];exact λh1 g hg=>by have:=a2.out h1 g hg;omega,Z.trans (b3.mono Z.size)⟩
 ·have f:=J.out;rw[if_pos h0] at f;have g1:(E==0)=false:=by simp[h0]
  have g2:(E != 0)=true:=by simp[h0]
  subst f;clear h0 J hL;go_wp2_with fail
  go_ret2;exact⟨none,0,0,rfl,Np _,Z⟩
theorem Told.Qbr {w:World}{p:Nat}{R:Int->Nd × Int}{root:Int}{its:List Qg}(h:Told w p R root its)(ht:Tab w)(k:Kd)(G:List UInt8 × Int)(hG:Tq (valOf its k)=G) :
  Calls Tryz.prog 71 #[.pointer (some ⟨p,0,none⟩),.int .i64 root,.agg #[.int .i64 k.obj,.int .i64 k.kind,.int .i64 k.off]] w λe w'=>∃A n c,e=.returned (.tuple #[.slice A n c,.int .i64 G.2])/\Sl w' A n c G.1/\(G.1≠[]->∀g,q01 A=some g->w.1.size<=g)/\Below w.1.size w w':=by
 have:=quf h.src ht root k;rw[qu3 h.tree h.Qk,hG] at this;exact this
