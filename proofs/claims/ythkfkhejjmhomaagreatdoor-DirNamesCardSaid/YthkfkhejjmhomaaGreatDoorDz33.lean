/- The code's PutNode, of a node that lies apart from the pool; for a pool and its drive -/
import Derived.Test.YthkfkhejjmhomaaGreatDoorDz32
namespace Go.Proofs.YthkfkhejjmhomaaGreatDoor
open Go Go.RowKit Go.Proofs
set_option maxHeartbeats 8000000
set_option maxRecDepth 100000
section
open Go.ChangeMaps (setBlock)
theorem Qkp {w:World}{p d:Nat}{S T:Nat->Prop}{P:Pl}(H:Pool w p d S T P)(hT:∀k,T k->k<w.1.size)(hG:¬T 1)(N:Nd)(A:Option Addr)(n c:Nat)(B:Option Addr)(F G:Nat)(b0:∀w',Turn S w w'->Je w' A n c N.items/\Q7 w' B F G N.kids)(hn:n<=1000)(hm:F<=1000)(ht:Tab w) :
  Calls Tryz.prog 232 #[.pointer (some ⟨p,0,none⟩),.agg #[.int .i64 N.lvl,.slice A n c,.slice B F G]] w λe w'=>e=.returned (.tuple #[.int .i64 (P.Yd N),.int .i64 (P.Xo N)])/\Pool w' p d S T (P.Xb N)/\Turn S w w'/\Tab w':=by
 have b5:=H.ok;have N1:NB (w.alloc (.cells #[.int .i64 N.lvl,.slice A n c,.slice B F G] 77)) w.1.size N.lvl A n c B F G:=NB.new w _ _ _ _ _ _ _ _;have Z:Below w.1.size w (w.alloc (.cells #[.int .i64 N.lvl,.slice A n c,.slice B F G] 77)):=Ib;have z1:(w.alloc (.cells #[.int .i64 N.lvl,.slice A n c,.slice B F G] 77)).1.size=w.1.size+1:=by simp
 have a8:=λr hr w' (hw:Turn S w w')=>Pm N r hr A n c B F G w' (b0 w' hw).1 (b0 w' hw).2 hn hm
 have c0:=N1.c0;have c1:=N1.c1;have c2:=N1.c2;have t1:=ht.below Z ht.1;have H1:=H.below Z;have B1:Turn S w (w.alloc (.cells #[.int .i64 N.lvl,.slice A n c,.slice B F G] 77)):=Uk Z
 cases f:N.may with
 |false=>
  have e1:P.Yd N=0:=by unfold Pl.Yd;rw[f];rfl
  have e2:P.Xo N=1:=by unfold Pl.Xo;rw[f];rfl
  have e3:P.Xb N=P:=by unfold Pl.Xb;rw[f];rfl
  rw[e1,e2,e3];have a6:=Lib.hid (a8 false f);clear f e1 e2 e3 a8;go_enter Tryz.func232,Tryz.ntmps232
  go_wp2_with fail
  generalize w.alloc (.cells #[.int .i64 N.lvl,.slice A n c,.slice B F G] 77)=w1 at Z N1 z1 c0 c1 c2 t1 H1 B1 ⊢;refine (a6.out w1 B1).mono ?_;rintro e w2 ⟨rfl,J⟩;go_wp2;go_ret2;have BB:=Z.trans (J.mono (by omega));exact⟨rfl,H.below BB,Uk BB,ht.below BB ht.1⟩
 |true=>
  have b4:=Gu f;have e1:P.Yd N=P.C.Js:=by unfold Pl.Yd;rw[f];rfl
  have e2:P.Xo N=P.C.Jr:=by unfold Pl.Xo;rw[f];rfl
  have e3:P.Xb N=P.lay (.node N):=by unfold Pl.Xb;rw[f];rfl
  have d1:=λ(a:Nat) (ha:a<=2047)=>q23 f ha Rx
  have a6:=Lib.hid (a8 true f);have d6:=Lib.hid d1;rw[e1,e2,e3];clear f a8 d1 e1 e2 e3;have H0:=H;obtain⟨m,d7,l,clock,v,Sc,L⟩:=H1;have c8:=L.Yw;have c6:=L.mlt
  cases hp:P.C.pick with
  |none=>
   obtain⟨a1,a2,a3⟩:=Ct.Qb1 hp;have E:=λ(w2:World) (C2:Jg w2 p 36 Sc P.C)=>Qh7 C2
   rw[a1,a2,a3] at E;rw[a1,a2,Qiv hp];have E:=Lib.hid E;clear a1 a2 a3 hp;go_enter Tryz.func232,Tryz.ntmps232
   go_wp2_with fail
   generalize w.alloc (.cells #[.int .i64 N.lvl,.slice A n c,.slice B F G] 77)=w1 at Z N1 z1 c0 c1 c2 t1 B1 L c8 c6 ⊢;refine (a6.out w1 B1).mono ?_;rintro e w2 ⟨rfl,J⟩;have u:=L.below J;go_wp2_with fail
   refine (E.out w2 u.ct).mono ?_;rintro e y ⟨rfl,C3,Y⟩;go_wp2;go_ret2;have BB:=Z.trans (J.mono (by omega));have X3:Turn S w y:=(Uk (S:=S) BB).trans (Y.mono u.Zk.2.2) λk hk=>.inl hk
   exact⟨rfl,⟨m,d7,l,clock,v,Sc,u.Ze3 Y C3 rfl (λ_=>Iff.rfl) b5⟩,X3,ht.turned X3 λh=>hG (u.sub _ h)⟩
  |some a=>
   obtain⟨a1,a2,a3⟩:=Ct.Zi hp;have d9:=(Ct.Zm hp).1;have M:P.C.get (a:Int)=0:=by unfold Ct.get;rw[if_pos (by omega),Int.toNat_natCast];exact (Ct.Zm hp).2.2.1
   have U:Qd (a:Int) l=none:=by rw[L.look a];unfold Pl.live;rw[if_pos M];rfl
   have I:=Lib.hid U;have f1:=b5.c.1;have hS:=Ko (P:=P) (.node N);have c7:=Kq (P:=P) (.node N);have b3:=Hf b5 b4.fine;have b7:P.C.alloc=(P.lay (.node N)).C:=by rw[Vw hp]
   have b9:=Qzm hp (.node N);have b8:=Qyu b4 L.good;have E:=λ(w2:World) (C2:Jg w2 p 36 Sc P.C)=>Qh7 C2
   rw[a1,a2,b7] at E;rw[a1,a2];obtain⟨c9,e9,_⟩:=d6.out a (by omega);have O:=b4.len (a:=a) (g:=0) (by omega) Rx;have d0:(Bk.node N).out a 0=Jw N (a:Int) 0:=rfl;rw[d0] at O;have d4:=Lib.hid c9;have f0:=Lib.hid O;have E:=Lib.hid E;have d3:=Lib.hid b9;have d2:=Lib.hid b8;have b6:=Lib.hid b3;have HS:=Lib.hid hS;have Hn:=Lib.hid c7;clear a1 a2 a3 hp b7 hS c7 b3 b9 b8 c9 e9 O U M d0;go_enter Tryz.func232,Tryz.ntmps232
   go_wp2_with fail
   generalize w.alloc (.cells #[.int .i64 N.lvl,.slice A n c,.slice B F G] 77)=w1 at Z N1 z1 c0 c1 c2 t1 B1 L c8 c6 ⊢;refine (a6.out w1 B1).mono ?_;rintro e w2 ⟨rfl,J⟩;have u:=L.below J;go_wp2_with fail
   refine (E.out w2 u.ct).mono ?_;rintro e y ⟨rfl,C3,Y⟩;have z2:=J.size;have z3:=Y.size;have N2:=N1.below J (by omega);have e8:=Y.block p u.Yw λh=>(u.ne p h).1 rfl
   have e7:=Y.block m u.mlt λh=>(u.ne m h).2 rfl
   have B3:Turn S w y:=(Uk (S:=S) (Z.trans (J.mono (by omega)))).trans (Y.mono u.Zk.2.2) λk hk=>.inl hk
   have e5:¬Sc w.1.size:=λh=>by have:=hT _ (u.sub _ (u.Zk.2.2 _ h));omega
   have n3:=Y.block w.1.size N2.lt e5;have N3:NB y w.1.size N.lvl A n c B F G:=by
    obtain⟨t,h⟩:=N2;exact⟨t,n3.trans h⟩
   have Fj:y.cell? ⟨p,40,none⟩=some (.map (some m)):=(World.cell?_of_block (a:=⟨p,40,none⟩) e8).trans u.c40;have t3:Tab y:=(t1.below J t1.1).turned Y λh=>hG (u.sub _ (u.Zk.2.2 _ h))
   have e4:w.1.size≠m:=λe=>by have h1:=hT m (u.sub _ u.Zk.2.1);omega
   have hF:∀w',Below y.1.size y w'->w'.cell? ⟨p,40,none⟩=some (.map (some m))/\w'.cell? ⟨w.1.size,0,none⟩=some (.int .i64 N.lvl)/\w'.cell? ⟨w.1.size,1,none⟩=some (.slice A n c)/\w'.cell? ⟨w.1.size,2,none⟩=some (.slice B F G):=λw' hb=>
    have N':=N3.below hb N3.lt;⟨(hb.cell (p:=⟨p,40,none⟩) (by show p<_;omega)).trans Fj,N'.c0,N'.c1,N'.c2⟩
   have d8:∀w' (o:Obj),Below y.1.size y w'->(setBlock w' m o).cell? ⟨p,40,none⟩=some (.map (some m))/\(setBlock w' m o).cell? ⟨w.1.size,0,none⟩=some (.int .i64 N.lvl)/\(setBlock w' m o).cell? ⟨w.1.size,1,none⟩=some (.slice A n c)/\(setBlock w' m o).cell? ⟨w.1.size,2,none⟩=some (.slice B F G):=λw' o hb=>by
    have hz:=hb.size;have TB:Turn (λk=>k=m) w' (setBlock w' m o):=Gh _ rfl;obtain⟨h1,h2,h3,h4⟩:=hF w' hb;have e1:=TB.block p (by omega) u.Vm;have e2:=TB.block w.1.size (by omega) e4;exact⟨(World.cell?_of_block (a:=⟨p,40,none⟩) e1).trans h1,(World.cell?_of_block (a:=⟨w.1.size,0,none⟩) e2).trans h2,(World.cell?_of_block (a:=⟨w.1.size,1,none⟩) e2).trans h3,(World.cell?_of_block (a:=⟨w.1.size,2,none⟩) e2).trans h4⟩
   have BD:Below y.1.size y y.drew:=(Below.refl _ _).drew;have d5:=Lib.hid (λ(w':World) (hb:Below y.1.size y w') (v':Value)=>(congrArg (λz:Nat=>Result.ok () (setBlock w' m (.map (Qv (a:Int) v' clock l).toArray z))) (if_pos I.out)).subst (motive:=λr=>(Instr.mapUpdate 123 (.map (some m)) (.int .i64 (a:Int)) v').run Tryz.prog w'=r) (Tv L.ents Tryz.underlying123 Tryz.underlying3 ((hb.block m (by omega)).trans (e7.trans u.map)) (a:Int) v'));have BI:Turn S w y.drew:=B3.drew;go_wp2_with fail
   go_region_held3 (λw'=>w'.cell? ⟨p,40,none⟩=some (.map (some m))/\w'.cell? ⟨w.1.size,0,none⟩=some (.int .i64 N.lvl)/\w'.cell? ⟨w.1.size,1,none⟩=some (.slice A n c)/\w'.cell? ⟨w.1.size,2,none⟩=some (.slice B F G))
    (first|assumption|exact hF _ BD|exact hF _ a7|exact d8 _ _ a7)
    (first
     |(go_at_call 251;refine (Qic N (a:Int) 0 A n c B F G _ (b0 _ BI).1 (b0 _ BI).2 hn hm (t3.below BD t3.1)).mono ?_;rw[d4.out];rintro e w4 ⟨A3,n3,c3,rfl,W,e6,e0⟩;have a7:Below y.1.size y w4:=BD.trans e0;have f2:=d5.out w4 a7)
     |fail)
   obtain⟨q,rfl,rfl,rfl⟩:=e6 (by first|trivial|rfl);have hq:=(W.block ⟨q,0,none⟩ rfl).1;obtain⟨R1,R2⟩:=u.store (P':=P.lay (.node N)) (b:=.node N) Y C3 a7 Hn.out HS.out d9 d3.out d2.out b6.out W.sl (λh=>by have h1:=hT q h;have h2:y.drew.1.size=y.1.size:=rfl;have h3:y.drew.1.size<=q:=hq;omega);rw[if_pos I.out] at R1 R2;go_wp2;go_ret2;have BB:=Z.trans (J.mono (by omega));have X3:=(Uk (S:=S) BB).trans R2 λk hk=>.inl hk
   exact⟨rfl,R1,X3,ht.turned X3 λh=>hG (u.sub _ h)⟩
section
variable {b:Nat}{w:World}{d p:Nat}{S0 S T:Nat->Prop}{D:DM}{P:Pl}
theorem Qh5 (H:Zb b w d p S0 S T D P)(y:1<b)(u:Tab w)(N:Nd)(A:Option Addr)(n c:Nat)(B:Option Addr)(m k:Nat)(g:∀w',Turn S w w'->Je w' A n c N.items/\Q7 w' B m k N.kids)(hn:n<=1000)(hm:m<=1000) :
  Calls Tryz.prog 232 #[.pointer (some ⟨p,0,none⟩),.agg #[.int .i64 N.lvl,.slice A n c,.slice B m k]] w λe w'=>e=.returned (.tuple #[.int .i64 (P.Yd N),.int .i64 (P.Xo N)])/\Zb b w' d p S0 S T D (P.Xb N)/\Turn S w w'/\Tab w':=by
 refine (Qkp H.pool (λk f=>(H.tight k f).2) (λh=>by have:=(H.tight _ h).1;omega) N A n c B m k g hn hm u).mono ?_;rintro e w' ⟨rfl,R,X,t⟩;have z:=X.size;exact⟨rfl,⟨H.Vh.keep λk f q=>X.block k f (H.apart k q),R,H.sub,H.apart,λk f=>⟨(H.tight k f).1,by have:=(H.tight k f).2;omega⟩⟩,X,t⟩
end
end
structure Pl.tidy (P:Pl):Prop where
 kind:∀a b,P.L a=some b->b.kindOk
 laid:∀a:Nat,P.C.fresh (a:Int)=true->∃b,P.L a=some b
section
variable {P:Pl}
theorem Qio {C:Ct}{c:Nat}{x:Int}(h0:C.get (c:Int)≠0){a:Nat}(h:(C.put c x).fresh (a:Int)=true):C.fresh (a:Int)=true:=by
 have f:a<C.n:=by
  obtain⟨n,e,hn⟩:=Xr (Dz h);rw[C.Qc] at hn;omega
 unfold Ct.fresh at h ⊢;rw[Y0 C a f] at h;by_cases e:a=c
 ·subst e;rw[if_pos rfl] at h;rw[if_neg h0];split at h
  ·cases h
  ·exact h
 ·rw[if_neg e] at h;exact h
theorem Pl.tidy.Zf (h:P.tidy)(a:Int):Pl.tidy ⟨P.S,P.C.Zf a,P.L⟩:=by
 refine⟨h.kind,λc e=>h.laid c ?_⟩;have e:(P.C.Zf a).fresh (c:Int)=true:=e;unfold Ct.Zf at e;split at e
 ·exact e
 ·rename_i h0;obtain⟨n,rfl,hn⟩:=Xr h0;rw[Int.toNat_natCast] at e;exact Qio h0 e
theorem Pl.tidy.ref (h:P.tidy)(a:Int):Pl.tidy ⟨P.S,P.C.ref a,P.L⟩:=by
 refine⟨h.kind,λc f=>h.laid c ?_⟩;have f:(P.C.ref a).fresh (c:Int)=true:=f;unfold Ct.ref at f;split at f
 ·rename_i g;have h0:P.C.get a≠0:=λe=>by unfold Ct.Xc at g;rw[if_pos e] at g;cases g
  obtain⟨n,rfl,hn⟩:=Xr h0;rw[Int.toNat_natCast] at f;exact Qio h0 f
 ·exact f
theorem Pl.tidy.set (h:P.tidy)(a:Int)(N:Nd):(P.Qch a N).tidy:=by
 unfold Pl.Qch;split
 ·refine⟨λc x f=>?_,λc g=>?_⟩
  ·have f:upd P.L a.toNat (some (.node N)) c=some x:=f;by_cases e:c=a.toNat
   ·subst e;rw[Y9] at f;obtain rfl:=Option.some.inj f;exact trivial
   ·rw[Y8 _ _ e] at f;exact h.kind c x f
  ·show ∃b,upd P.L a.toNat (some (.node N)) c=some b;by_cases e:c=a.toNat
   ·subst e;exact⟨_,Y9 _ _ _⟩
   ·rw[Y8 _ _ e];exact h.laid c g
 ·exact h
theorem Pl.tidy.put (h:P.tidy)(N:Nd):(P.Xb N).tidy:=by
 unfold Pl.Xb;split
 ·cases g:P.C.pick with
  |none=>rw[Qiv g];exact h
  |some a=>
   have A:=(Ct.Zm g).2.2.1;have z:=(Ct.Zm g).1;refine⟨λc x q=>?_,λc f=>?_⟩
   ·rw[Ar g] at q;split at q
    ·obtain rfl:=Option.some.inj q;exact trivial
    ·exact h.kind c x q
   ·rw[Ar g];by_cases e:c=a
    ·exact⟨_,if_pos e⟩
    ·rw[if_neg e];refine h.laid c ?_;rw[Vw g] at f;have f:P.C.alloc.fresh (c:Int)=true:=f;rw[(Ct.Zi g).2.2] at f;have u:c<P.C.n:=by
      obtain⟨n,y,h2⟩:=Xr (Dz f);rw[P.C.Qc] at h2;omega
     unfold Ct.fresh at f ⊢;rw[Y0 P.C c u,if_neg e] at f;exact f
 ·exact h
theorem Pl.tidy.leave {P':Pl}{s:Zz}(h:P.tidy)(hl:P.leave s=some P'):P'.tidy:=by
 unfold Pl.leave at hl;split at hl
 ·obtain rfl:=Option.some.inj hl;exact h
 ·split at hl
  ·obtain rfl:=Option.some.inj hl;exact h.Zf _
  ·cases hl
theorem Qmc:∀(f:List Int) {P P':Pl},P.tidy->Yg f P=some P'->P'.tidy
 |[],P,P',h,e=>by obtain rfl:=Option.some.inj e;exact h
 |a::r,P,P',h,e=>by
  have e:(if P.C.Xc a=0 then Yg r ⟨P.S,P.C.ref a,P.L⟩ else none)=some P':=e;split at e
  ·exact Qmc r (h.ref a) e
  ·cases e
theorem Qhj:∀(f:List Int) {P P':Pl},P.tidy->Ag f P=some P'->P'.tidy
 |[],P,P',h,e=>by obtain rfl:=Option.some.inj e;exact h
 |a::r,P,P',h,e=>by
  have e:(if P.C.Jc a=0 then Ag r ⟨P.S,P.C.Zf a,P.L⟩ else none)=some P':=e;split at e
  ·exact Qhj r (h.Zf a) e
  ·cases e
theorem Pl.tidy.X7 {P':Pl}{s:Zz}{i j:Nat}(h:P.tidy)(hl:P.X7 s i j=some P'):P'.tidy:=by
 unfold Pl.X7 at hl;split at hl
 ·exact Qmc _ h hl
 ·split at hl
  ·obtain rfl:=Option.some.inj hl;exact h
  ·exact Qhj _ h hl
end
section
variable {b:Nat}{w w':World}{d p:Nat}{S0 S T S':Nat->Prop}{D:DM}{P P':Pl}
theorem Zb.grown (H:Zb b w d p S0 S T D P)(t:Turn S' w w')(hT:∀k,S' k->T k)(h0:∀k,S' k->¬S0 k)(h1:∀k,S' k->¬S k):Zb b w' d p S0 S (grow T w w') D P:=by
 have q:=H.base;have g:=H.Va;have z:=t.size;have f:∀k,T k->grow T w w' k:=λk e=>⟨.inl e,by have:=(H.tight k e).2;omega⟩
 have u:Pool w p d S (grow T w w') P:=H.pool.mono (λk _ h=>h) (λk e h=>h.1.elim id λh=>by omega) λk h=>f k (g k h)
 exact⟨H.Vh.keep λk e y=>t.block k e λh=>h0 k h y,u.other t (λk e=>f k (hT k e)) h1,λk e=>f k (H.sub k e),H.apart,λk e=>⟨e.1.elim (λh=>(H.tight k h).1) λh=>by omega,e.2⟩⟩
theorem Qq1 (H:Zb b w d p S0 S T D P)(z:1<b)(q:Tab w)(g:P.tidy)(a:Int)(N:Nd)(A:Option Addr)(n c:Nat)(B:Option Addr)(m f:Nat)(u:Je w A n c N.items)(y:Q7 w B m f N.kids)(hn:n<=1000)(hm:m<=1000) :
  Calls Tryz.prog 237 #[.pointer (some ⟨p,0,none⟩),.int .i64 a,.agg #[.int .i64 N.lvl,.slice A n c,.slice B m f]] w λe w'=>e=.returned (.int .i64 (P.Qfz a N))/\Zb b w' d p S0 S T D (P.Qch a N)/\Turn S w w'/\Tab w':=by
 refine (Qsf H.Vh H.pool g.kind g.laid (λk E=>(H.tight k E).2) (Below.refl _ _) a N A n c B m f u y hn hm q).mono ?_;rintro e w' ⟨rfl,R,X⟩;exact⟨rfl,H.step R X,X,H.tab z q X⟩
end
structure H9 (b:Nat)(w0 w:World)(d p:Nat)(S0 S T T':Nat->Prop)(D:DM)(P:Pl):Prop where
 sys:Zb b w d p S0 S T' D P
 sub:∀k,T k->T' k
 turn:Turn S w0 w
 tab:Tab w
 tidy:P.tidy
 base:1<b
 low:∀k,S0 k\/S k->k<w0.heap.size
 Ce:∀k,S0 k\/S k->T k
section
variable {b:Nat}{w0 w w':World}{d p:Nat}{S0 S T T' S':Nat->Prop}{D:DM}{P P':Pl}
theorem H9.own (h:H9 b w0 w d p S0 S T T' D P)(t:Turn S' w w')(hS:∀k,S' k->T' k/\w0.1.size<=k):H9 b w0 w' d p S0 S T (grow T' w w') D P:=by
 have g:=t.size;exact⟨h.sys.grown t (λk e=>(hS k e).1) (λk e h0=>by have:=h.low k (.inl h0);have:=(hS k e).2;omega) (λk e h0=>by have:=h.low k (.inr h0);have:=(hS k e).2;omega),
  λk e=>⟨.inl (h.sub k e),by have:=(h.sys.tight k (h.sub k e)).2;omega⟩,h.turn.trans t λk e=>.inr (hS k e).2,h.tab.turned t λf=>by have:=(h.sys.tight _ (hS _ f).1).1;have:=h.base;omega,h.tidy,h.base,h.low,h.Ce⟩
theorem H9.below (h:H9 b w0 w d p S0 S T T' D P)(hb:Below w.1.size w w'):H9 b w0 w' d p S0 S T (grow T' w w') D P:=h.own (Uk (S:=λ_=>False) hb) λ_ h=>h.elim
theorem H9.mem (h:H9 b w0 w d p S0 S T T' D P){k:Nat}(hk:T' k)(hz:w.1.size<=w'.1.size):grow T' w w' k:=⟨.inl hk,by have:=(h.sys.tight k hk).2;omega⟩
theorem Qyv {k:Nat}(h1:w.1.size<=k)(h2:k<w'.1.size):grow T' w w' k:=⟨.inr h1,h2⟩
theorem H9.step (h:H9 b w0 w d p S0 S T T' D P)(H:Zb b w' d p S0 S T' D P')(X:Turn S w w')(ht:Tab w')(hP:P'.tidy):H9 b w0 w' d p S0 S T T' D P':=⟨H,h.sub,h.turn.then X,ht,hP,h.base,h.low,h.Ce⟩
theorem H9.start (H:Zb b w0 d p S0 S T D P)(hb:1<b)(ht:Tab w0)(hP:P.tidy):H9 b w0 w0 d p S0 S T T D P:=⟨H,λ_ h=>h,Turn.refl _ _,ht,hP,hb,λk e=>(H.tight k (e.elim (H.sub k) (H.Va k))).2,λk e=>e.elim (H.sub k) (H.Va k)⟩
theorem H9.done (h:H9 b w0 w d p S0 S T T' D P):Zb b w d p S0 S T D P:=h.sys.less h.sub (λk e=>h.Ce k (.inl e)) λk e=>h.Ce k (.inr e)
theorem H9.not (h:H9 b w0 w d p S0 S T T' D P){k:Nat}(hk:w0.1.size<=k):¬S k:=λe=>by have:=h.low k (.inr e);omega
end
section
variable {Q:World->Prop}{w w':World}{X:Option Addr}{k kc:Nat}{Ns:List Nd}
theorem Qci {s:Nat}{A:Option Addr}{n c:Nat}{xs:List (List Value)}(h:Zg w s A n c xs){S:Nat->Prop}(T:Turn S w w')(f:∀k,Xq A=some k->¬S k):Zg w' s A n c xs:=h.keep T.size λg o e q=>T.block g q (f g (by rw[e];rfl))
theorem Bnl.turned (h:Bnl Q w X k kc Ns){S:Nat->Prop}(T:Turn S w w')(hA:∀k,Xq X=some k->¬S k):Bnl Q w' X k kc Ns:=by
 obtain⟨e,h1,h2⟩:=h;exact⟨e,Qci h1 T hA,h2⟩
theorem Bnl.tail {N:Nd}{g o:Nat}(h:Bnl Q w (some ⟨g,o,none⟩) k kc (N::Ns)):∃u,(if kc=1 then (some ⟨g,o,none⟩:Option Addr) else Option.map (λx:Addr=>x.add 3) (some ⟨g,o,none⟩))=some ⟨g,u,none⟩/\Bnl Q w (some ⟨g,u,none⟩) (k-1) (kc-1) Ns/\1<=k/\1<=kc:=by
 have z:=h.len;rw[List.length_cons] at z;obtain⟨f,h1,h2,y⟩:=h;have hd:=h1.drop (k:=1) (by omega);have B:=h1.cap;refine⟨if kc=1 then o else o+3,by split<;>rfl,⟨f.drop 1,?_,by rw[List.length_drop,h2,List.length_cons];omega,λj r x q A=>y (j+1) r x (by rw[List.getElem?_drop] at q;rw[show j+1=1+j by omega];exact q) (by rw[List.getElem?_cons_succ];exact A)⟩,by omega,by omega⟩;by_cases e:kc=1
 ·rw[if_pos e] at hd ⊢;exact hd
 ·rw[if_neg e] at hd ⊢;exact hd
theorem Spl.turned {ss:List Zz}(h:Spl Q w X k kc ss){S:Nat->Prop}(T:Turn S w w')(hA:∀k,Xq X=some k->¬S k):Spl Q w' X k kc ss:=by
 obtain⟨e,h1,h2⟩:=h;exact⟨e,Qci h1 T hA,h2⟩
end
theorem Qea {w:World}{base n c:Nat}{A:Option Addr}{ks:List Qk}{o:Oper}{a:Act}{K:Act->World->Prop}{z:Exit->Act->World->Prop}(y x:Operand)
  (G:o.op=.call { callee:=.builtin .append,args:=#[y,x],argTypes:=#[75,75] })
  (H:a.eval y=.slice A n c) (g:Yi w base A n c ks) {B:Option Addr} {d:Nat} (I:a.eval x=.slice B 1 d) {l:Qk} (J:Q7 w B 1 d [l]) (hn:n<=1000) (e:base<=w.1.size)
  (h:∀f u w',Yi w' base f (n+1) u (ks++[l])->Turn (λk=>Xq A=some k) w w'->(Xq f=Xq A\/Xq f=some w.1.size)->K (a.put o.dst (.slice f (n+1) u)) w'):Oper.wp Tryz.prog o a w K z:=by
 obtain⟨f,u,w',q,h2,E,F⟩:=Qo6 (ty:=o.type) g J (by omega) e;unfold Oper.wp execOp;simp only[G,resolve,invoke,builtin,Sem.run_bind,Sem.run_pure,Result.andThen_ok,List.map_toArray,List.map_cons,List.map_nil,H,I,q];exact h f u w' h2 E F
theorem Qt5 (w:World)(x:Qk):Q7 (w.alloc (.cells x.vs.toArray 148)) (some ⟨w.1.size,0,none⟩) 1 1 [x]:=(Np w 148 4 x.vs _ rfl rfl).Hr (by omega)
section
variable {s:Zz}{olds:List Zz}{P:Pl}{ks:List Qk}{R:Pl × List Nd × List Qk}{b:Nd}{rest:List Nd}
theorem Qg9 (h:Ld (s::olds) P [] ks=some R):∃P',P.leave s=some P'/\Ld olds P' [] ks=some R:=by
 unfold Ld at h;split at h
 ·rename_i P' e;exact⟨P',e,h⟩
 ·cases h
theorem Qbk (f:s.shared=true\/P.C.fresh s.addr=false)(h:Ld (s::olds) P (b::rest) ks=some R):∃P',P.leave s=some P'/\Ld olds P' (b::rest) ks=some R:=by
 unfold Ld at h;rw[if_pos f] at h;split at h
 ·rename_i P' e;exact⟨P',e,h⟩
 ·cases h
theorem Qha (h1:s.shared=false)(h2:P.C.fresh s.addr=true)(h:Ld (s::olds) P (b::rest) ks=some R):P.Qfz s.addr b=0/\Ld olds (P.Qch s.addr b) rest (ks++[⟨b.least,s.addr⟩])=some R:=by
 unfold Ld at h;rw[if_neg (by rw[h1,h2];simp)] at h;split at h
 ·rename_i e;exact⟨e,h⟩
 ·cases h
theorem Qg7 {R:Pl × Option (List Qk)}(h:Oi (b::rest) P ks=some R):(P.Xo b=0/\Oi rest (P.Xb b) (ks++[⟨b.least,P.Yd b⟩])=some R)\/(P.Xo b=6/\R=(P.Xb b,none)):=by
 unfold Oi at h;split at h
 ·rename_i e;exact .inl ⟨e,h⟩
 ·split at h
  ·rename_i e;exact .inr ⟨e,(Option.some.inj h).symm⟩
  ·cases h
end
theorem Zax {e:List Zz}{j:Nat}(h:j<e.length):e.drop j=Qaa e j::e.drop (j+1):=by
 rw[List.drop_eq_getElem_cons h];unfold Qaa;rw[List.getD_eq_getElem?_getD,List.getElem?_eq_getElem h];rfl
theorem Zc0 {f:List Nd}{j:Nat}(h:j<f.length):f.drop j=Kt f j::f.drop (j+1):=by
 have e:=Ku h;rw[List.getElem?_eq_getElem h] at e;rw[List.drop_eq_getElem_cons h,Option.some.inj e]
structure Ba (w0 w:World)(p:Nat)(V:List Value)(lv:Int)(K:Option Addr)(n c:Nat):Prop where
 t:RB w w0.heap.size [.pointer (some ⟨p,0,none⟩)]
 x:RB w (w0.heap.size+1) V
 r:NB w (w0.heap.size+2) 0 none 0 0 none 0 0
 k:NB w (w0.heap.size+3) lv none 0 0 K n c
theorem Ba.turned {w0 w w':World}{p:Nat}{V:List Value}{lv:Int}{K:Option Addr}{n c:Nat}(h:Ba w0 w p V lv K n c){S:Nat->Prop}(T:Turn S w w')(hS:∀k,S k->k<w0.1.size\/w0.1.size+4<=k):Ba w0 w' p V lv K n c:=
 ⟨h.t.turned T λe=>by have:=hS _ e;omega,h.x.turned T λe=>by have:=hS _ e;omega,h.r.turned T λe=>by have:=hS _ e;omega,h.k.turned T λe=>by have:=hS _ e;omega⟩
structure Qed (b:Nat)(w0 wp w:World)(d p:Nat)(S0 S T:Nat->Prop)(D:DM)(V:List Value)(lv:Int)(P:Pl)(X:Option Addr)(m mc:Nat)(rest:List Nd)(K:Option Addr)(n c:Nat)(ks:List Qk)(T':Nat->Prop):Prop where
 l:H9 b w0 w d p S0 S T T' D P
 o:Ba w0 w p V lv K n c
 row:Bnl (Turn S w0) w X m mc rest
 kids:Yi w wp.heap.size K n c ks
 own:∀g,w0.heap.size<=g->g<wp.heap.size->T' g
 Qr9:∀g,Xq X=some g->w0.heap.size+4<=g/\g<wp.heap.size
 Zc6:∀g,Xq K=some g->T' g
 fit:∀N∈rest,N.fit
section
variable {b:Nat}{w0 wp w w':World}{d p:Nat}{S0 S T T':Nat->Prop}{D:DM}{V:List Value}{lv:Int}{P P':Pl}{X:Option Addr}{m mc:Nat}{rest:List Nd}{K:Option Addr}{n c:Nat}{ks:List Qk}
theorem Qed.next (h:Qed b w0 wp w d p S0 S T D V lv P X m mc rest K n c ks T'){T2:Nat->Prop}(L:H9 b w0 w' d p S0 S T T2 D P')(hT:∀k,T' k->T2 k)(X2:Turn S w w')(hz:w0.1.size+4<=wp.1.size):Qed b w0 wp w' d p S0 S T D V lv P' X m mc rest K n c ks T2:=by
 have f:=h.l.low;refine⟨L,h.o.turned X2 λk q=>.inl (f k (.inr q)),h.row.turned X2 λg e=>h.l.not (by have:=h.Qr9 g e;omega),h.kids.turned X2 λg e=>h.l.not (by have:=(h.kids.Zx g e).1;omega),λg h1 h2=>hT g (h.own g h1 h2),h.Qr9,λg e=>hT g (h.Zc6 g e),h.fit⟩
theorem Qed.below (h:Qed b w0 wp w d p S0 S T D V lv P X m mc rest K n c ks T')(hb:Below w.1.size w w')(hz:w0.1.size+4<=wp.1.size):Qed b w0 wp w' d p S0 S T D V lv P X m mc rest K n c ks (grow T' w w'):=
 h.next (h.l.below hb) (λ_ e=>h.l.mem e hb.size) (Uk hb) hz
theorem Qed.more (h:Qed b w0 wp w d p S0 S T D V lv P X m mc rest K n c ks T')(hz:w0.1.size+4<=wp.1.size){w5 w6:World}(hb:Below w.1.size w w5){K6:Option Addr}{c6:Nat}{x:Qk}(k6:Yi w6 wp.1.size K6 (n+1) c6 (ks++[x]))(T6:Turn (λg=>Xq K=some g) w5 w6)(hK:Xq K6=Xq K\/Xq K6=some w5.1.size) :
  Qed b w0 wp (w6.setCell ⟨w0.1.size+3,2,none⟩ (.slice K6 (n+1) c6)) d p S0 S T D V lv P X m mc rest K6 (n+1) c6 (ks++[x]) (grow T' w (w6.setCell ⟨w0.1.size+3,2,none⟩ (.slice K6 (n+1) c6))):=by
 have z:Turn (λg=>g=w0.1.size+3) w6 (w6.setCell ⟨w0.1.size+3,2,none⟩ (.slice K6 (n+1) c6)):=Gi (a:=⟨w0.1.size+3,2,none⟩) _ rfl;have A:=h.kids.Zx;have y:=h.own;have O:=h.o.t.lt;have I:=h.o.x.lt;have J:=h.o.r.lt;have M:=h.o.k.lt;have U:=hb.size;have W:=T6.size;have Y:=z.size;have B:Turn (λg=>g=w0.1.size+3\/Xq K=some g) w (w6.setCell ⟨w0.1.size+3,2,none⟩ (.slice K6 (n+1) c6)):=
  ((Uk (S:=λg=>g=w0.1.size+3\/Xq K=some g) hb).trans T6 λg f=>.inl (.inr f)).trans z λg f=>.inl (.inl f)
 have u:Turn (λg=>Xq K=some g) w w6:=(Uk (S:=λg=>Xq K=some g) hb).trans T6 λg f=>.inl f
 have F:=h.o.t.turned u (λq=>by have:=(A _ q).1;omega);have G:=h.o.x.turned u (λq=>by have:=(A _ q).1;omega);have E:=h.o.r.turned u (λq=>by have:=(A _ q).1;omega);have H:=h.o.k.turned u (λq=>by have:=(A _ q).1;omega);refine⟨h.l.own B λg f=>f.elim (λe=>⟨y g (by omega) (by omega),by omega⟩) λe=>⟨h.Zc6 g e,by have:=(A g e).1;omega⟩,
  ⟨F.keep (z.block _ F.lt (by show ¬w0.1.size=w0.1.size+3;omega)),G.keep (z.block _ G.lt (by show ¬w0.1.size+1=w0.1.size+3;omega)),E.keep (z.block _ E.lt (by show ¬w0.1.size+2=w0.1.size+3;omega)),H.set2 _ _ _⟩,
  h.row.turned B λg f q=>by
   have:=h.Qr9 g f;exact q.elim (λe=>by omega) λe=>by have:=(A g e).1;omega,
  k6.turned z λg f q=>by have q:g=w0.1.size+3:=q;have:=(k6.Zx g f).1;omega,
  λg h1 h2=>h.l.mem (y g h1 h2) (by omega),h.Qr9,λg f=>?_,h.fit⟩
 rcases hK with e|e
 ·exact h.l.mem (h.Zc6 g (e▸f)) (by omega)
 ·rw[e] at f;obtain rfl:=Option.some.inj f;have:=(k6.Zx _ e).2;exact⟨.inr (by omega),by omega⟩
theorem Qed.tail {M:Nd}{g o:Nat}(h:Qed b w0 wp w d p S0 S T D V lv P (some ⟨g,o,none⟩) m mc (M::rest) K n c ks T'):∃f,(if mc=1 then some (⟨g,o,none⟩:Addr) else some ⟨g,o+3,none⟩)=some ⟨g,f,none⟩/\Qed b w0 wp w d p S0 S T D V lv P (some ⟨g,f,none⟩) (m-1) (mc-1) rest K n c ks T':=by
 obtain⟨f,e,u,_,_⟩:=h.row.tail;exact⟨f,e,h.l,h.o,u,h.kids,h.own,h.Qr9,h.Zc6,λN q=>h.fit N (List.mem_cons_of_mem _ q)⟩
end
