/- The code's edit: pieces -/
import Derived.Test.YthkfkhejjmhomaaGreatDoorDb32
namespace Go.Proofs.YthkfkhejjmhomaaGreatDoor
open Go Go.RowKit Go.Proofs
set_option maxHeartbeats 8000000
set_option maxRecDepth 100000
theorem TBn:Dh Tryz.prog 315 178 3 56 (.agg #[.int .i64 0,.slice none 0 0,.slice none 0 0]):=⟨Tryz.underlying315,by kernel_rfl,rfl,by omega⟩
def Gh (Q:World->Prop)(w:World)(base:Nat)(A:Option Addr)(n c:Nat)(Ns:List Nd):Prop:=
 ∃e,Qr w base 178 3 A n c e/\e.length=Ns.length/\∀(j:Nat) r N,e[j]?=some r->Ns[j]?=some N->∃A n c B m d,r=Va N.lvl A n c B m d/\Jf Q N A n c B m d
section
variable {Q:World->Prop}{w w':World}{base n c:Nat}{A:Option Addr}{Ns:List Nd}
theorem qu9 (Q:World->Prop)(w:World)(base:Nat):Gh Q w base none 0 0 []:=⟨[],Lu _ _ _ _,rfl,λj r x e=>by simp at e⟩
theorem Gh.below (h:Gh Q w base A n c Ns)(hb:Below w.1.size w w'):Gh Q w' base A n c Ns:=by
 obtain⟨e,h1,h2⟩:=h;exact⟨e,h1.below hb,h2⟩
theorem Gh.bnl (h:Gh Q w base A n c Ns):Ah Q w A n c Ns:=by
 obtain⟨e,h1,h2⟩:=h;exact⟨e,h1.Uo (by omega),h2⟩
theorem Gh.Qc (h:Gh Q w base A n c Ns):∀k,q01 A=some k->base<=k/\k<w.1.size:=by
 obtain⟨e,h1,_⟩:=h;exact h1.Qc
theorem qdw (ty:TypeId)(E:Gh Q w base A n c Ns){B:Option Addr}{d:Nat}{N:Nd}{M:Option Addr}{Y c1:Nat}{O:Option Addr}{W U:Nat}
  (e:Jq w 3 B 1 d [Va N.lvl M Y c1 O W U]) (hq:Jf Q N M Y c1 O W U) (hn:n<=1000) (f:base<=w.1.size) :
  ∃I J w',(Builtin.append_ #[315,315] ty #[.slice A n c,.slice B 1 d]).run Tryz.prog w=.ok (.slice I (n+1) J) w'/\Gh Q w' base I (n+1) J (Ns++[N])/\Below base w w':=by
 obtain⟨u,h1,h2,Z⟩:=E;obtain⟨I,J,w',F,H,hb⟩:=q8b (P:=Tryz.prog) w TBn ty base A n c u h1 B 1 d _ e (by omega) (qsr _ _ _ _ _ _ _) (by omega) (by omega) f;refine⟨I,J,w',F,⟨_,H,by simp[h2],λj r' x e G=>?_⟩,hb⟩;by_cases hj:j<u.length
 ·rw[List.getElem?_append_left hj] at e;rw[List.getElem?_append_left (by omega)] at G;exact Z j r' x e G
 ·rw[List.getElem?_append_right (by omega)] at e G;have y:j-u.length=0:=by
   have:=(List.getElem?_eq_some_iff.1 e).1;simp at this;omega
  rw[y] at e;rw[<-h2,y] at G;obtain rfl:=Option.some.inj e;obtain rfl:=Option.some.inj G;exact⟨_,_,_,_,_,_,rfl,hq⟩
theorem qba {o:Oper}{a:Act}{K:Act->World->Prop}{O:Exit->Act->World->Prop}(M x:Operand)
  (W:o.op=.call { callee:=.builtin .append,args:=#[M,x],argTypes:=#[315,315] })
  (hs:a.eval M=.slice A n c) (f:Gh Q w base A n c Ns) {B:Option Addr} {d:Nat} (hx:a.eval x=.slice B 1 d) {N:Nd} {F:Option Addr} {J c1:Nat} {G:Option Addr} {I H:Nat}
  (Z:Jq w 3 B 1 d [Va N.lvl F J c1 G I H]) (Y:Jf Q N F J c1 G I H) (hn:n<=1000) (e:base<=w.1.size)
  (h:∀y E w',Gh Q w' base y (n+1) E (Ns++[N])->Below base w w'->K (a.put o.dst (.slice y (n+1) E)) w') :
  Oper.wp Tryz.prog o a w K O:=by
 obtain⟨y,E,w',u,h2,U⟩:=qdw (ty:=o.type) f Z Y hn e;unfold Oper.wp execOp;simp only[W,resolve,invoke,builtin,Sem.run_bind,Sem.run_pure,Result.andThen_ok,List.map_toArray,List.map_cons,List.map_nil,hs,hx,u];exact h y E w' h2 U
end
theorem qxn (w:World)(l:Int)(A:Option Addr)(n c:Nat)(B:Option Addr)(m d:Nat):Jq (w.alloc (.cells #[.int .i64 l,.slice A n c,.slice B m d] 178)) 3 (some ⟨w.1.size,0,none⟩) 1 1 [Va l A n c B m d]:=(q1i w 178 3 (Va l A n c B m d) _ rfl rfl).Uo (by omega)
theorem qhw {N:Nd}{j:Nat}(h:j<parts N):(pieces N).take (j+1)=(pieces N).take j++[N.cut (N.size*j / parts N) (N.size*(j+1) / parts N)]:=by
 have e:(pieces N).length=parts N:=by unfold pieces;simp
 rw[List.take_succ_eq_append_getElem (by omega)];congr 2
 unfold pieces;simp
theorem qhx {Q:World->Prop}{N:Nd}{A B:Option Addr}{n c m d:Nat}(hB:Jf Q N A n c B m d)(a2:N.fit)(d9:N.size<=60)(w:World) :
  Calls Tryz.prog 235 #[Xw N.lvl A n c B m d] w λe w'=>∃X k kc,e=.returned (.slice X k kc)/\Gh Q w' w.1.size X k kc (pieces N)/\Below w.1.size w w':=by
 have H:=hB.size;have hn:=hB.hn;have hm:=hB.hm;obtain⟨z,hz⟩:∃z,N.size=z:=⟨_,rfl⟩;obtain⟨P,hP⟩:∃P,parts N=P:=⟨_,rfl⟩;obtain⟨f,I⟩:∃f,Qo N.lvl=f:=⟨_,rfl⟩;have d3:6<=f/\f<=12:=by rw[<-I];unfold Qo;split<;>omega
 have Y:(z+f-1) / f=P:=by rw[<-hP,<-hz,<-I];rfl
 have c7:P<=100:=by rw[<-Y];exact Nat.le_trans (Nat.div_le_self _ _) (by omega)
 have W:NB (w.alloc (.cells #[.int .i64 N.lvl,.slice A n c,.slice B m d] 178)) w.1.size N.lvl A n c B m d:=NB.new w _ _ _ _ _ _ _ _;have b1:Below w.1.size w (w.alloc (.cells #[.int .i64 N.lvl,.slice A n c,.slice B m d] 178)):=Qk;have HL:=λu=>q2w N.lvl A n c B m d u
 have HS:=λu=>q1u N.lvl A n c B m d (by omega) (by omega) u
 rw[I] at HL;rw[<-H,hz] at HS;have c0:=W.c0;have c1:=W.c1;have c2:=W.c2;unfold Xw at HL HS ⊢;replace HL:=Lib.hid HL;replace HS:=Lib.hid HS;have e5:IntKind.i64.wrap ((z:Int)+(f:Int))=((z+f:Nat):Int):=by rw[show (z:Int)+(f:Int)=((z+f:Nat):Int) by omega];exact IntWalk.i64_in _ (by omega)
 have e6:IntKind.i64.wrap (((z+f:Nat):Int)-1)=((z+f-1:Nat):Int):=by rw[show ((z+f:Nat):Int)-1=((z+f-1:Nat):Int) by omega];exact IntWalk.i64_in _ (by omega)
 have hq:((z:Int)+(f:Int)-1) / (f:Int)=(P:Int):=by
  rw[<-Y,show (z:Int)+(f:Int)-1=((z+f-1:Nat):Int) by omega];exact (Int.natCast_ediv _ _).symm
 have d2:((f:Int)==0)=false:=by simp;omega
 go_enter Tryz.func235,Tryz.ntmps235
 go_wp2_with fail
 generalize w.alloc (.cells #[.int .i64 N.lvl,.slice A n c,.slice B m d] 178)=w1 at W b1 c0 c1 c2 ⊢;refine (HL.out w1).mono ?_;rintro e w2 ⟨rfl,b2⟩;have N2:=W.below b2 W.lt;have c0:=N2.c0;have c1:=N2.c1;have c2:=N2.c2;go_wp2_with fail
 refine (HS.out w2).mono ?_;rintro e w3 ⟨rfl,b3⟩;have N3:=N2.below b3 N2.lt;have BB:=b1.trans ((b2.trans (b3.mono b2.size)).mono b1.size);have z1:=N3.lt;clear c0 c1 c2 W N2 b1 b2 b3;go_wp2_with fail
 simp only[hq];clear hq;go_loopw [6,21] (λl i wr=>∃(j:Nat) (X:Option Addr) (kc:Nat),j<=P/\i=.int .i64 (j:Int)/\l=.slice X j kc/\Gh Q wr (w.1.size+1) X j kc ((pieces N).take j)/\NB wr w.1.size N.lvl A n c B m d/\Below w.1.size w wr) (λ_ i _=>P-(intOf i).toNat)
 case atStart=>exact⟨0,none,0,Nat.zero_le _,rfl,rfl,qu9 _ _ _,N3,BB⟩
 case round=>
  obtain⟨j,X,kc,hj,rfl,rfl,own,NN,hb⟩:=hrel;have zN:=NN.lt;have zb:=hb.size;have a1:w.1.size+1<=wr.1.size:=zN;by_cases b8:j<P
  ·have HT:=Lib.hid (qhw (N:=N) (j:=j) (by rw[hP];exact b8));obtain⟨lo,G⟩:∃lo,z*j / P=lo:=⟨_,rfl⟩;obtain⟨hi,E⟩:∃hi,z*(j+1) / P=hi:=⟨_,rfl⟩;have a6:lo<=hi:=by rw[<-G,<-E];exact Nat.div_le_div_right (Nat.mul_le_mul_left _ (by omega))
   have d7:hi<=z:=by
    rw[<-E];exact Nat.le_trans (Nat.div_le_div_right (Nat.mul_le_mul_left z (show j+1<=P by omega))) (by rw[Nat.mul_div_cancel _ (by omega)];exact Nat.le_refl _)
   have Z:=qah hB a2 (j:=hi) (by omega);obtain⟨A1,n1,c1,B1,m1,d1,e1,q1,l1⟩:=q7i hB a6 Z;have HC:=λu=>q3d N.lvl A n c B m d lo hi a6 Z ⟨hn.2.1,hn.2.2⟩ ⟨hm.2.1,hm.2.2⟩ u
   rw[e1] at HC;unfold Xw at HC;replace HC:=Lib.hid HC;have b9:z*j<=6000:=by have:=Nat.mul_le_mul (show z<=60 by omega) (show j<=100 by omega);omega
   have a8:z*(j+1)<=6060:=by have:=Nat.mul_le_mul (show z<=60 by omega) (show j+1<=101 by omega);omega
   have c9:((P:Int)==0)=false:=by simp;omega
   obtain⟨p1,M⟩:∃p1,z*j=p1:=⟨_,rfl⟩;obtain⟨p2,O⟩:∃p2,z*(j+1)=p2:=⟨_,rfl⟩;rw[M] at b9 G;rw[O] at a8 E;have v1:IntKind.i64.wrap ((z:Int)*(j:Int))=(p1:Int):=by rw[<-M,<-Int.natCast_mul];exact IntWalk.i64_in _ (by omega)
   have v2:IntKind.i64.wrap ((z:Int)*((j:Int)+1))=(p2:Int):=by rw[show (z:Int)*((j:Int)+1)=((z*(j+1):Nat):Int) by rw[Int.natCast_mul];rfl,O];exact IntWalk.i64_in _ (by omega)
   have v3:(p1:Int) / (P:Int)=(lo:Int):=by rw[<-G];exact (Int.natCast_ediv _ _).symm
   have v4:(p2:Int) / (P:Int)=(hi:Int):=by rw[<-E];exact (Int.natCast_ediv _ _).symm
   have b7:lo<=60:=by omega
   have b6:hi<=60:=by omega
   have v5:IntKind.i64.wrap (hi:Int)=(hi:Int):=IntWalk.i64_in _ (by omega);have v6:IntKind.i64.wrap (lo:Int)=(lo:Int):=IntWalk.i64_in _ (by omega);obtain⟨J,hJ⟩:∃J,j+1=J:=⟨_,rfl⟩;have e0:IntKind.i64.wrap ((j:Int)+1)=(J:Int):=by rw[<-hJ];exact IntWalk.i64_in _ (by omega)
   have e2:IntKind.i64.wrap ((z:Int)*(J:Int))=(p2:Int):=by rw[<-hJ];exact v2
   have e3:(p1:Int).tdiv (P:Int)=(lo:Int):=by rw[<-v3];exact Int.tdiv_eq_ediv_of_nonneg (by omega)
   have e4:(p2:Int).tdiv (P:Int)=(hi:Int):=by rw[<-v4];exact Int.tdiv_eq_ediv_of_nonneg (by omega)
   replace hJ:=Lib.hid hJ;have b0:¬(P:Int)=0:=by omega
   have c8:¬P=0:=by omega
   have d5:decide ((P:Int)=0)=false:=decide_eq_false b0;have d4:z<=60:=by omega
   have b5:=Lib.hid (show (pieces N).take (j+1)=(pieces N).take j++[N.cut lo hi] by rw[HT.out,hP,hz,M,O,G,E]);have a7:=Lib.hid (λ(u:World)=>(l1.symm▸qxn u N.lvl A1 n1 c1 B1 m1 d1:Jq (u.alloc (.cells #[.int .i64 N.lvl,.slice A1 n1 c1,.slice B1 m1 d1] 178)) 3 (some ⟨u.1.size,0,none⟩) 1 1 [Va (N.cut lo hi).lvl A1 n1 c1 B1 m1 d1]));clear e1 Z hz hP H M O G E HT I Y l1;have cells:∀u,Below (w.1.size+1) wr u->u.cell? ⟨w.1.size,0,none⟩=some (.int .i64 N.lvl)/\u.cell? ⟨w.1.size,1,none⟩=some (.slice A n c)/\u.cell? ⟨w.1.size,2,none⟩=some (.slice B m d):=λu hu=>
    have N':=NN.below hu (by omega);⟨N'.c0,N'.c1,N'.c2⟩
   have y:Below wr.1.size wr wr.drew:=(Below.refl _ _).drew;go_wp2_with fail
   go_region_held3 (λu=>u.cell? ⟨w.1.size,0,none⟩=some (.int .i64 N.lvl)/\u.cell? ⟨w.1.size,1,none⟩=some (.slice A n c)/\u.cell? ⟨w.1.size,2,none⟩=some (.slice B m d))
    (first|(with_reducible assumption)|(with_reducible exact cells _ (y.mono a1))|(with_reducible exact cells _ ((y.alloc y.size _).mono a1))|(with_reducible exact b4.out))
    (first
     |(go_at_call 188;(with_reducible refine (HS.out _).mono ?_);rintro e wX ⟨rfl,hX⟩;replace y:=y.trans (hX.mono y.size);clear hX)
     |(go_at_call 187;(with_reducible refine (HC.out _).mono ?_);rintro e wX ⟨rfl,hX⟩;replace y:=y.trans (hX.mono y.size);clear hX)
     |(rw[if_pos (by rfl)];refine qba (Q:=Q) (base:=w.1.size+1) (.tmp 24) (.tmp 40) (by rfl) (by rfl) (own.below (y.alloc y.size (.cells #[.int .i64 N.lvl,.slice A1 n1 c1,.slice B1 m1 d1] 178))) (by rfl) (a7.out _) q1 (by omega) (by have:=(y.alloc y.size (.cells #[.int .i64 N.lvl,.slice A1 n1 c1,.slice B1 m1 d1] 178)).size;omega) ?_;intro X' c6 w6 U F;have bA:=y.alloc y.size (.cells #[.int .i64 N.lvl,.slice A1 n1 c1,.slice B1 m1 d1] 178);have F:=(bA.mono a1).trans F;have b4:=Lib.hid (cells w6 F))
     |fail)
   all_goals (
    go_wp2_with fail
    rw[<-b5.out] at U;exact⟨⟨j+1,X',c6,by omega,by rw[<-hJ.out],rfl,U,NN.below F (by omega),hb.trans (F.mono (by omega))⟩,by simp[intOf];have:=hJ.out;omega⟩)
  ·have d8:P<=j:=by omega
   have d6:¬(j:Int)<(P:Int):=by omega
   have d0:(pieces N).length=P:=by rw[<-hP];unfold pieces;simp
   rw[List.take_of_length_le (by omega)] at own;go_wp2;go_ret;exact⟨X,j,kc,rfl,⟨own.choose,own.choose_spec.1.less (by omega),own.choose_spec.2⟩,hb⟩
structure Pl.tidy (P:Pl):Prop where
 kind:∀a b,P.L a=some b->b.kindOk
 laid:∀a:Nat,P.C.fresh (a:Int)=true->∃b,P.L a=some b
section
variable {P:Pl}
theorem qc4 {C:Ct}{c:Nat}{x:Int}(h0:C.get (c:Int)≠0){a:Nat}(h:(C.put c x).fresh (a:Int)=true):C.fresh (a:Int)=true:=by
 have f:a<C.n:=by
  obtain⟨n,e,hn⟩:=Gq (q38 h);rw[C.Zh] at hn;omega
 unfold Ct.fresh at h ⊢;rw[q1x C a f] at h;by_cases e:a=c
 ·subst e;rw[if_pos rfl] at h;rw[if_neg h0];split at h
  ·cases h
  ·exact h
 ·rw[if_neg e] at h;exact h
theorem Pl.tidy.Qq (h:P.tidy)(a:Int):Pl.tidy ⟨P.S,P.C.Qq a,P.L⟩:=by
 refine⟨h.kind,λc e=>h.laid c ?_⟩;have e:(P.C.Qq a).fresh (c:Int)=true:=e;unfold Ct.Qq at e;split at e
 ·exact e
 ·rename_i h0;obtain⟨n,rfl,hn⟩:=Gq h0;rw[Int.toNat_natCast] at e;exact qc4 h0 e
theorem Pl.tidy.ref (h:P.tidy)(a:Int):Pl.tidy ⟨P.S,P.C.ref a,P.L⟩:=by
 refine⟨h.kind,λc f=>h.laid c ?_⟩;have f:(P.C.ref a).fresh (c:Int)=true:=f;unfold Ct.ref at f;split at f
 ·rename_i u;have h0:P.C.get a≠0:=λe=>by unfold Ct.Y4 at u;rw[if_pos e] at u;cases u
  obtain⟨n,rfl,hn⟩:=Gq h0;rw[Int.toNat_natCast] at f;exact qc4 h0 f
 ·exact f
theorem Pl.tidy.set (h:P.tidy)(a:Int)(N:Nd):(P.Vp a N).tidy:=by
 unfold Pl.Vp;split
 ·refine⟨λc x f=>?_,λc u=>?_⟩
  ·have f:upd P.L a.toNat (some (.node N)) c=some x:=f;by_cases e:c=a.toNat
   ·subst e;rw[Bd] at f;obtain rfl:=Option.some.inj f;exact trivial
   ·rw[Au _ _ e] at f;exact h.kind c x f
  ·show ∃b,upd P.L a.toNat (some (.node N)) c=some b;by_cases e:c=a.toNat
   ·subst e;exact⟨_,Bd _ _ _⟩
   ·rw[Au _ _ e];exact h.laid c u
 ·exact h
theorem Pl.tidy.put (h:P.tidy)(N:Nd):(P.Jj N).tidy:=by
 unfold Pl.Jj;split
 ·cases u:P.C.pick with
  |none=>rw[qdh u];exact h
  |some a=>
   have G:=(Ct.Yd u).2.2.1;have F:=(Ct.Yd u).1;refine⟨λc x y=>?_,λc f=>?_⟩
   ·rw[qhg u] at y;split at y
    ·obtain rfl:=Option.some.inj y;exact trivial
    ·exact h.kind c x y
   ·rw[qhg u];by_cases e:c=a
    ·exact⟨_,if_pos e⟩
    ·rw[if_neg e];refine h.laid c ?_;rw[q3r u] at f;have f:P.C.alloc.fresh (c:Int)=true:=f;rw[(Ct.Xo u).2.2] at f;have B:c<P.C.n:=by
      obtain⟨n,E,h2⟩:=Gq (q38 f);rw[P.C.Zh] at h2;omega
     unfold Ct.fresh at f ⊢;rw[q1x P.C c B,if_neg e] at f;exact f
 ·exact h
theorem Pl.tidy.leave {P':Pl}{s:Qs}(h:P.tidy)(hl:P.leave s=some P'):P'.tidy:=by
 unfold Pl.leave at hl;split at hl
 ·obtain rfl:=Option.some.inj hl;exact h
 ·split at hl
  ·obtain rfl:=Option.some.inj hl;exact h.Qq _
  ·cases hl
theorem qfr:∀(f:List Int) {P P':Pl},P.tidy->Ul f P=some P'->P'.tidy
 |[],P,P',h,e=>by obtain rfl:=Option.some.inj e;exact h
 |a::r,P,P',h,e=>by
  have e:(if P.C.Y4 a=0 then Ul r ⟨P.S,P.C.ref a,P.L⟩ else none)=some P':=e;split at e
  ·exact qfr r (h.ref a) e
  ·cases e
theorem qai:∀(f:List Int) {P P':Pl},P.tidy->q31 f P=some P'->P'.tidy
 |[],P,P',h,e=>by obtain rfl:=Option.some.inj e;exact h
 |a::r,P,P',h,e=>by
  have e:(if P.C.Jm a=0 then q31 r ⟨P.S,P.C.Qq a,P.L⟩ else none)=some P':=e;split at e
  ·exact qai r (h.Qq a) e
  ·cases e
theorem Pl.tidy.Q8 {P':Pl}{s:Qs}{i j:Nat}(h:P.tidy)(hl:P.Q8 s i j=some P'):P'.tidy:=by
 unfold Pl.Q8 at hl;split at hl
 ·exact qfr _ h hl
 ·split at hl
  ·obtain rfl:=Option.some.inj hl;exact h
  ·exact qai _ h hl
end
section
variable {b:Nat}{w w':World}{d p:Nat}{S0 S T S':Nat->Prop}{D:DM}{P P':Pl}
theorem Qg.grown (H:Qg b w d p S0 S T D P)(t:Turn S' w w')(hT:∀k,S' k->T k)(h0:∀k,S' k->¬S0 k)(h1:∀k,S' k->¬S k):Qg b w' d p S0 S (grow T w w') D P:=by
 have y:=H.base;have u:=H.Aw;have F:=t.size;have f:∀k,T k->grow T w w' k:=λk e=>⟨.inl e,by have:=(H.tight k e).2;omega⟩
 have B:Pool w p d S (grow T w w') P:=H.pool.mono (λk _ h=>h) (λk e h=>h.1.elim id λh=>by omega) λk h=>f k (u k h)
 exact⟨H.Az.keep λk e E=>t.block k e λh=>h0 k h E,B.other t (λk e=>f k (hT k e)) h1,λk e=>f k (H.sub k e),H.apart,λk e=>⟨e.1.elim (λh=>(H.tight k h).1) λh=>by omega,e.2⟩⟩
theorem qmc (H:Qg b w d p S0 S T D P)(G:1<b)(y:Tab w)(u:P.tidy)(a:Int)(N:Nd)(A:Option Addr)(n c:Nat)(B:Option Addr)(m f:Nat)(E:Jg w A n c N.items)(F:Zk w B m f N.kids)(hn:n<=1000)(hm:m<=1000) :
  Calls Tryz.prog 237 #[.pointer (some ⟨p,0,none⟩),.int .i64 a,.agg #[.int .i64 N.lvl,.slice A n c,.slice B m f]] w λe w'=>e=.returned (.int .i64 (P.Gu a N))/\Qg b w' d p S0 S T D (P.Vp a N)/\Turn S w w'/\Tab w':=by
 refine (qm7 H.Az H.pool u.kind u.laid (λk I=>(H.tight k I).2) (Below.refl _ _) a N A n c B m f E F hn hm y).mono ?_;rintro e w' ⟨rfl,R,X⟩;exact⟨rfl,H.step R X,X,H.tab G y X⟩
end
structure Bj (b:Nat)(w0 w:World)(d p:Nat)(S0 S T T':Nat->Prop)(D:DM)(P:Pl):Prop where
 sys:Qg b w d p S0 S T' D P
 sub:∀k,T k->T' k
 turn:Turn S w0 w
 tab:Tab w
 tidy:P.tidy
 base:1<b
 low:∀k,S0 k\/S k->k<w0.heap.size
 Qah:∀k,S0 k\/S k->T k
section
variable {b:Nat}{w0 w w':World}{d p:Nat}{S0 S T T' S':Nat->Prop}{D:DM}{P P':Pl}
theorem Bj.own (h:Bj b w0 w d p S0 S T T' D P)(t:Turn S' w w')(hS:∀k,S' k->T' k/\w0.1.size<=k):Bj b w0 w' d p S0 S T (grow T' w w') D P:=by
 have u:=t.size;exact⟨h.sys.grown t (λk e=>(hS k e).1) (λk e h0=>by have:=h.low k (.inl h0);have:=(hS k e).2;omega) (λk e h0=>by have:=h.low k (.inr h0);have:=(hS k e).2;omega),
  λk e=>⟨.inl (h.sub k e),by have:=(h.sys.tight k (h.sub k e)).2;omega⟩,h.turn.trans t λk e=>.inr (hS k e).2,h.tab.turned t λf=>by have:=(h.sys.tight _ (hS _ f).1).1;have:=h.base;omega,h.tidy,h.base,h.low,h.Qah⟩
theorem Bj.below (h:Bj b w0 w d p S0 S T T' D P)(hb:Below w.1.size w w'):Bj b w0 w' d p S0 S T (grow T' w w') D P:=h.own (Qx (S:=λ_=>False) hb) λ_ h=>h.elim
theorem Bj.mem (h:Bj b w0 w d p S0 S T T' D P){k:Nat}(hk:T' k)(hz:w.1.size<=w'.1.size):grow T' w w' k:=⟨.inl hk,by have:=(h.sys.tight k hk).2;omega⟩
theorem qua {k:Nat}(h1:w.1.size<=k)(h2:k<w'.1.size):grow T' w w' k:=⟨.inr h1,h2⟩
theorem Bj.step (h:Bj b w0 w d p S0 S T T' D P)(H:Qg b w' d p S0 S T' D P')(X:Turn S w w')(ht:Tab w')(hP:P'.tidy):Bj b w0 w' d p S0 S T T' D P':=⟨H,h.sub,h.turn.then X,ht,hP,h.base,h.low,h.Qah⟩
theorem Bj.start (H:Qg b w0 d p S0 S T D P)(hb:1<b)(ht:Tab w0)(hP:P.tidy):Bj b w0 w0 d p S0 S T T D P:=⟨H,λ_ h=>h,Turn.refl _ _,ht,hP,hb,λk e=>(H.tight k (e.elim (H.sub k) (H.Aw k))).2,λk e=>e.elim (H.sub k) (H.Aw k)⟩
theorem Bj.done (h:Bj b w0 w d p S0 S T T' D P):Qg b w d p S0 S T D P:=h.sys.less h.sub (λk e=>h.Qah k (.inl e)) λk e=>h.Qah k (.inr e)
theorem Bj.not (h:Bj b w0 w d p S0 S T T' D P){k:Nat}(hk:w0.1.size<=k):¬S k:=λe=>by have:=h.low k (.inr e);omega
end
section
variable {Q:World->Prop}{w w':World}{X:Option Addr}{k kc:Nat}{Ns:List Nd}
theorem q58 {s:Nat}{A:Option Addr}{n c:Nat}{xs:List (List Value)}(h:Jq w s A n c xs){S:Nat->Prop}(T:Turn S w w')(f:∀k,q01 A=some k->¬S k):Jq w' s A n c xs:=h.keep T.size λg o e u=>T.block g u (f g (by rw[e];rfl))
theorem Ah.turned (h:Ah Q w X k kc Ns){S:Nat->Prop}(T:Turn S w w')(hA:∀k,q01 X=some k->¬S k):Ah Q w' X k kc Ns:=by
 obtain⟨e,h1,h2⟩:=h;exact⟨e,q58 h1 T hA,h2⟩
theorem Ah.tail {N:Nd}{g o:Nat}(h:Ah Q w (some ⟨g,o,none⟩) k kc (N::Ns)):∃y,(if kc=1 then (some ⟨g,o,none⟩:Option Addr) else Option.map (λx:Addr=>x.add 3) (some ⟨g,o,none⟩))=some ⟨g,y,none⟩/\Ah Q w (some ⟨g,y,none⟩) (k-1) (kc-1) Ns/\1<=k/\1<=kc:=by
 have E:=h.len;rw[List.length_cons] at E;obtain⟨f,h1,h2,B⟩:=h;have hd:=h1.drop (k:=1) (by omega);have G:=h1.cap;refine⟨if kc=1 then o else o+3,by split<;>rfl,⟨f.drop 1,?_,by rw[List.length_drop,h2,List.length_cons];omega,λj r x u F=>B (j+1) r x (by rw[List.getElem?_drop] at u;rw[show j+1=1+j by omega];exact u) (by rw[List.getElem?_cons_succ];exact F)⟩,by omega,by omega⟩;by_cases e:kc=1
 ·rw[if_pos e] at hd ⊢;exact hd
 ·rw[if_neg e] at hd ⊢;exact hd
theorem Ve.turned {ss:List Qs}(h:Ve Q w X k kc ss){S:Nat->Prop}(T:Turn S w w')(hA:∀k,q01 X=some k->¬S k):Ve Q w' X k kc ss:=by
 obtain⟨e,h1,h2⟩:=h;exact⟨e,q58 h1 T hA,h2⟩
end
theorem q6m {w:World}{base n c:Nat}{A:Option Addr}{ks:List Qj}{o:Oper}{a:Act}{K:Act->World->Prop}{G:Exit->Act->World->Prop}(F x:Operand)
  (J:o.op=.call { callee:=.builtin .append,args:=#[F,x],argTypes:=#[75,75] })
  (M:a.eval F=.slice A n c) (u:Ua w base A n c ks) {B:Option Addr} {d:Nat} (O:a.eval x=.slice B 1 d) {l:Qj} (U:Zk w B 1 d [l]) (hn:n<=1000) (e:base<=w.1.size)
  (h:∀f E w',Ua w' base f (n+1) E (ks++[l])->Turn (λk=>q01 A=some k) w w'->(q01 f=q01 A\/q01 f=some w.1.size)->K (a.put o.dst (.slice f (n+1) E)) w'):Oper.wp Tryz.prog o a w K G:=by
 obtain⟨f,E,w',y,h2,H,I⟩:=qjs (ty:=o.type) u U (by omega) e;unfold Oper.wp execOp;simp only[J,resolve,invoke,builtin,Sem.run_bind,Sem.run_pure,Result.andThen_ok,List.map_toArray,List.map_cons,List.map_nil,M,O,y];exact h f E w' h2 H I
theorem qq4 (w:World)(x:Qj):Zk (w.alloc (.cells x.vs.toArray 148)) (some ⟨w.1.size,0,none⟩) 1 1 [x]:=(q1i w 148 4 x.vs _ rfl rfl).Uo (by omega)
section
variable {s:Qs}{olds:List Qs}{P:Pl}{ks:List Qj}{R:Pl × List Nd × List Qj}{b:Nd}{rest:List Nd}
theorem qaj (h:Gs (s::olds) P [] ks=some R):∃P',P.leave s=some P'/\Gs olds P' [] ks=some R:=by
 unfold Gs at h;split at h
 ·rename_i P' e;exact⟨P',e,h⟩
 ·cases h
theorem q3x (f:s.shared=true\/P.C.fresh s.addr=false)(h:Gs (s::olds) P (b::rest) ks=some R):∃P',P.leave s=some P'/\Gs olds P' (b::rest) ks=some R:=by
 unfold Gs at h;rw[if_pos f] at h;split at h
 ·rename_i P' e;exact⟨P',e,h⟩
 ·cases h
theorem qak (h1:s.shared=false)(h2:P.C.fresh s.addr=true)(h:Gs (s::olds) P (b::rest) ks=some R):P.Gu s.addr b=0/\Gs olds (P.Vp s.addr b) rest (ks++[⟨b.least,s.addr⟩])=some R:=by
 unfold Gs at h;rw[if_neg (by rw[h1,h2];simp)] at h;split at h
 ·rename_i e;exact⟨e,h⟩
 ·cases h
theorem qal {R:Pl × Option (List Qj)}(h:J7 (b::rest) P ks=some R):(P.Jk b=0/\J7 rest (P.Jj b) (ks++[⟨b.least,P.Yz b⟩])=some R)\/(P.Jk b=6/\R=(P.Jj b,none)):=by
 unfold J7 at h;split at h
 ·rename_i e;exact .inl ⟨e,h⟩
 ·split at h
  ·rename_i e;exact .inr ⟨e,(Option.some.inj h).symm⟩
  ·cases h
end
theorem qub {e:List Qs}{j:Nat}(h:j<e.length):e.drop j=Y6 e j::e.drop (j+1):=by
 rw[List.drop_eq_getElem_cons h];unfold Y6;rw[List.getD_eq_getElem?_getD,List.getElem?_eq_getElem h];rfl
theorem qxo {f:List Nd}{j:Nat}(h:j<f.length):f.drop j=U8 f j::f.drop (j+1):=by
 have e:=q4u h;rw[List.getElem?_eq_getElem h] at e;rw[List.drop_eq_getElem_cons h,Option.some.inj e]
structure P6 (w0 w:World)(p:Nat)(V:List Value)(lv:Int)(K:Option Addr)(n c:Nat):Prop where
 t:RB w w0.heap.size [.pointer (some ⟨p,0,none⟩)]
 x:RB w (w0.heap.size+1) V
 r:NB w (w0.heap.size+2) 0 none 0 0 none 0 0
 k:NB w (w0.heap.size+3) lv none 0 0 K n c
theorem P6.turned {w0 w w':World}{p:Nat}{V:List Value}{lv:Int}{K:Option Addr}{n c:Nat}(h:P6 w0 w p V lv K n c){S:Nat->Prop}(T:Turn S w w')(hS:∀k,S k->k<w0.1.size\/w0.1.size+4<=k):P6 w0 w' p V lv K n c:=
 ⟨h.t.turned T λe=>by have:=hS _ e;omega,h.x.turned T λe=>by have:=hS _ e;omega,h.r.turned T λe=>by have:=hS _ e;omega,h.k.turned T λe=>by have:=hS _ e;omega⟩
structure U2 (b:Nat)(w0 wp w:World)(d p:Nat)(S0 S T:Nat->Prop)(D:DM)(V:List Value)(lv:Int)(P:Pl)(X:Option Addr)(m mc:Nat)(rest:List Nd)(K:Option Addr)(n c:Nat)(ks:List Qj)(T':Nat->Prop):Prop where
 l:Bj b w0 w d p S0 S T T' D P
 o:P6 w0 w p V lv K n c
 row:Ah (Turn S w0) w X m mc rest
 kids:Ua w wp.heap.size K n c ks
 own:∀g,w0.heap.size<=g->g<wp.heap.size->T' g
 Lr:∀g,q01 X=some g->w0.heap.size+4<=g/\g<wp.heap.size
 Qai:∀g,q01 K=some g->T' g
 fit:∀N∈rest,N.fit
section
variable {b:Nat}{w0 wp w w':World}{d p:Nat}{S0 S T T':Nat->Prop}{D:DM}{V:List Value}{lv:Int}{P P':Pl}{X:Option Addr}{m mc:Nat}{rest:List Nd}{K:Option Addr}{n c:Nat}{ks:List Qj}
theorem U2.next (h:U2 b w0 wp w d p S0 S T D V lv P X m mc rest K n c ks T'){T2:Nat->Prop}(L:Bj b w0 w' d p S0 S T T2 D P')(hT:∀k,T' k->T2 k)(X2:Turn S w w')(hz:w0.1.size+4<=wp.1.size):U2 b w0 wp w' d p S0 S T D V lv P' X m mc rest K n c ks T2:=by
 have f:=h.l.low;refine⟨L,h.o.turned X2 λk u=>.inl (f k (.inr u)),h.row.turned X2 λg e=>h.l.not (by have:=h.Lr g e;omega),h.kids.turned X2 λg e=>h.l.not (by have:=(h.kids.Qc g e).1;omega),λg h1 h2=>hT g (h.own g h1 h2),h.Lr,λg e=>hT g (h.Qai g e),h.fit⟩
theorem U2.below (h:U2 b w0 wp w d p S0 S T D V lv P X m mc rest K n c ks T')(hb:Below w.1.size w w')(hz:w0.1.size+4<=wp.1.size):U2 b w0 wp w' d p S0 S T D V lv P X m mc rest K n c ks (grow T' w w'):=
 h.next (h.l.below hb) (λ_ e=>h.l.mem e hb.size) (Qx hb) hz
theorem U2.more (h:U2 b w0 wp w d p S0 S T D V lv P X m mc rest K n c ks T')(hz:w0.1.size+4<=wp.1.size){w5 w6:World}(hb:Below w.1.size w w5){K6:Option Addr}{c6:Nat}{x:Qj}(k6:Ua w6 wp.1.size K6 (n+1) c6 (ks++[x]))(T6:Turn (λg=>q01 K=some g) w5 w6)(hK:q01 K6=q01 K\/q01 K6=some w5.1.size) :
  U2 b w0 wp (w6.setCell ⟨w0.1.size+3,2,none⟩ (.slice K6 (n+1) c6)) d p S0 S T D V lv P X m mc rest K6 (n+1) c6 (ks++[x]) (grow T' w (w6.setCell ⟨w0.1.size+3,2,none⟩ (.slice K6 (n+1) c6))):=by
 have E:Turn (λg=>g=w0.1.size+3) w6 (w6.setCell ⟨w0.1.size+3,2,none⟩ (.slice K6 (n+1) c6)):=Ac (a:=⟨w0.1.size+3,2,none⟩) _ rfl;have F:=h.kids.Qc;have B:=h.own;have Y:=h.o.t.lt;have O:=h.o.x.lt;have U:=h.o.r.lt;have W:=h.o.k.lt;have Z:=hb.size;have s6:=T6.size;have s7:=E.size;have G:Turn (λg=>g=w0.1.size+3\/q01 K=some g) w (w6.setCell ⟨w0.1.size+3,2,none⟩ (.slice K6 (n+1) c6)):=
  ((Qx (S:=λg=>g=w0.1.size+3\/q01 K=some g) hb).trans T6 λg f=>.inl (.inr f)).trans E λg f=>.inl (.inl f)
 have y:Turn (λg=>q01 K=some g) w w6:=(Qx (S:=λg=>q01 K=some g) hb).trans T6 λg f=>.inl f
 have I:=h.o.t.turned y (λu=>by have:=(F _ u).1;omega);have J:=h.o.x.turned y (λu=>by have:=(F _ u).1;omega);have H:=h.o.r.turned y (λu=>by have:=(F _ u).1;omega);have M:=h.o.k.turned y (λu=>by have:=(F _ u).1;omega);refine⟨h.l.own G λg f=>f.elim (λe=>⟨B g (by omega) (by omega),by omega⟩) λe=>⟨h.Qai g e,by have:=(F g e).1;omega⟩,
  ⟨I.keep (E.block _ I.lt (by show ¬w0.1.size=w0.1.size+3;omega)),J.keep (E.block _ J.lt (by show ¬w0.1.size+1=w0.1.size+3;omega)),H.keep (E.block _ H.lt (by show ¬w0.1.size+2=w0.1.size+3;omega)),M.set2 _ _ _⟩,
  h.row.turned G λg f u=>by
   have:=h.Lr g f;exact u.elim (λe=>by omega) λe=>by have:=(F g e).1;omega,
  k6.turned E λg f u=>by have u:g=w0.1.size+3:=u;have:=(k6.Qc g f).1;omega,
  λg h1 h2=>h.l.mem (B g h1 h2) (by omega),h.Lr,λg f=>?_,h.fit⟩
 rcases hK with e|e
 ·exact h.l.mem (h.Qai g (e▸f)) (by omega)
 ·rw[e] at f;obtain rfl:=Option.some.inj f;have:=(k6.Qc _ e).2;exact⟨.inr (by omega),by omega⟩
theorem U2.tail {M:Nd}{g o:Nat}(h:U2 b w0 wp w d p S0 S T D V lv P (some ⟨g,o,none⟩) m mc (M::rest) K n c ks T'):∃f,(if mc=1 then some (⟨g,o,none⟩:Addr) else some ⟨g,o+3,none⟩)=some ⟨g,f,none⟩/\U2 b w0 wp w d p S0 S T D V lv P (some ⟨g,f,none⟩) (m-1) (mc-1) rest K n c ks T':=by
 obtain⟨f,e,y,_,_⟩:=h.row.tail;exact⟨f,e,h.l,h.o,y,h.kids,h.own,h.Lr,h.Qai,λN u=>h.fit N (List.mem_cons_of_mem _ u)⟩
end
section
variable {b:Nat}{w:World}{d p:Nat}{S0 S T:Nat->Prop}{D:DM}{P P':Pl}
def Ru (r:Option (List Qj)):Int:=match r with
 |some _=>0
 |none=>6
theorem qjw (H:Qg b w d p S0 S T D P)(hb:1<b)(ht:Tab w)(hP:P.tidy)(x:O9)(A:Option Addr)(n c:Nat)(B:Option Addr)(m dd:Nat)(hB:Jf (Turn S w) x.N A n c B m dd)(b7:x.N.fit)(i1:x.N.size<=40)(hl:0<=x.N.lvl/\x.N.lvl<8)
  (Y:Option Addr) (k kc:Nat) (hY:∀u,Turn S w u->Ve (Turn S w) u Y k kc x.olds) (hk:k<=10) {r:Option (List Qj)} (a1:P.Y3 x=some (P',r)) (i j:Int) :
  Calls Tryz.prog 191 #[tv p,.agg (Xe x.N.lvl A n c B m dd Y k kc i j).toArray] w λe w'=>∃A n c B m dd l,e=.returned (.tuple #[Xw l A n c B m dd,.int .i64 (Ru r)])/\(∀ks,r=some ks->l=x.N.lvl+1/\Jf (Turn S w') ⟨x.N.lvl+1,[],ks⟩ A n c B m dd)/\Qg b w' d p S0 S T D P'/\Turn S w w'/\Tab w'/\P'.tidy:=by
 obtain⟨N,olds,xi,xj⟩:=x;dsimp only at hB b7 i1 hl hY a1 ⊢;obtain⟨lv,d5⟩:∃lv,N.lvl=lv:=⟨_,rfl⟩;rw[d5] at hl;have i2:=(hY w (Turn.refl _ _)).len;obtain⟨P1,U,b1,hO,hN⟩:∃P1 U b1,Gs olds P (pieces N) []=some (P1,U,b1)/\J7 U P1 b1=some (P',r):=by
  unfold Pl.Y3 at a1;dsimp only at a1;split at a1
  ·rename_i P1 U b1 e;exact⟨P1,U,b1,e,a1⟩
  ·cases a1
 clear a1;have i0:(pieces N).length<=40:=by
  unfold pieces parts;rw[List.length_map,List.length_range];have:6<=Qo N.lvl:=by unfold Qo;split<;>omega
  exact Nat.le_trans (Nat.div_le_div_right (show N.size+Qo N.lvl-1<=40*Qo N.lvl by omega)) (by rw[Nat.mul_div_cancel _ (by omega)];exact Nat.le_refl _)
 have g9:∀M∈pieces N,M.fit:=λM hM=>by
  unfold pieces at hM;obtain⟨q,_,rfl⟩:=List.mem_map.1 hM;exact q7j b7 _ _
 have b4:Below w.1.size w ((((w.alloc (.cells #[.pointer (some ⟨p,0,none⟩)] 173)).alloc (.cells (Xe lv A n c B m dd Y k kc i j).toArray 274)).alloc (.cells #[.int .i64 0,.slice none 0 0,.slice none 0 0] 178)).alloc (.cells #[.int .i64 (lv+1),.slice none 0 0,.slice none 0 0] 178)):=(((Qk).alloc (by simp) _).alloc (by simp;omega) _).alloc (by simp;omega) _;have O4:P6 w ((((w.alloc (.cells #[.pointer (some ⟨p,0,none⟩)] 173)).alloc (.cells (Xe lv A n c B m dd Y k kc i j).toArray 274)).alloc (.cells #[.int .i64 0,.slice none 0 0,.slice none 0 0] 178)).alloc (.cells #[.int .i64 (lv+1),.slice none 0 0,.slice none 0 0] 178)) p (Xe lv A n c B m dd Y k kc i j) (lv+1) none 0 0:=by
  have q1:=RB.new w [.pointer (some ⟨p,0,none⟩)] 173;have q2:=RB.new (w.alloc (.cells #[.pointer (some ⟨p,0,none⟩)] 173)) (Xe lv A n c B m dd Y k kc i j) 274;have q3:=NB.new2 (w.alloc (.cells #[.pointer (some ⟨p,0,none⟩)] 173)) (.cells (Xe lv A n c B m dd Y k kc i j).toArray 274) 0 none 0 0 none 0 0 178;have q4:=NB.new2 ((w.alloc (.cells #[.pointer (some ⟨p,0,none⟩)] 173)).alloc (.cells (Xe lv A n c B m dd Y k kc i j).toArray 274)) (.cells #[.int .i64 0,.slice none 0 0,.slice none 0 0] 178) (lv+1) none 0 0 none 0 0 178;simp only[World.size_alloc] at q2 q3 q4;exact⟨((q1.below (Qk) (by simp<;>omega)).below (Qk) (by simp<;>omega)).below (Qk) (by simp<;>omega),(q2.below (Qk) (by simp<;>omega)).below (Qk) (by simp<;>omega),q3.below (Qk) (by simp<;>omega),q4⟩
 have z4:((((w.alloc (.cells #[.pointer (some ⟨p,0,none⟩)] 173)).alloc (.cells (Xe lv A n c B m dd Y k kc i j).toArray 274)).alloc (.cells #[.int .i64 0,.slice none 0 0,.slice none 0 0] 178)).alloc (.cells #[.int .i64 (lv+1),.slice none 0 0,.slice none 0 0] 178)).1.size=w.1.size+4:=by simp
 have Hp:=λ(u:World)=>qhx hB b7 (by omega) u
 rw[d5] at Hp;replace Hp:=Lib.hid Hp;have i9:IntKind.i64.wrap (lv+1)=lv+1:=IntWalk.i64_in _ (by omega);have y0:=O4.t.cell 0 rfl;have d7:=O4.x.cell 0 rfl;have d8:=O4.x.cell 1 rfl;have d9:=O4.x.cell 2 rfl;rw[d5];unfold tv;unfold Xe at b4 O4 z4 d7 d8 d9 y0 ⊢;go_enter Tryz.func191,Tryz.ntmps191
 go_wp2_with fail
 generalize ((((w.alloc (.cells #[.pointer (some ⟨p,0,none⟩)] 173)).alloc (.cells #[.int .i64 lv,.slice A n c,.slice B m dd,.slice Y k kc,.int .i64 i,.int .i64 j] 274)).alloc (.cells #[.int .i64 0,.slice none 0 0,.slice none 0 0] 178)).alloc (.cells #[.int .i64 (lv+1),.slice none 0 0,.slice none 0 0] 178))=w4 at b4 O4 z4 d7 d8 d9 y0 ⊢;refine (Hp.out w4).mono ?_;rintro e wp ⟨X,m0,mc,rfl,c7,b5⟩;have z5:=b5.size;have Z:w.1.size+4<=wp.1.size:=by omega
 have bp:Below w.1.size w wp:=b4.trans (b5.mono b4.size);have L0:=(Bj.start H hb ht hP).below bp;have I0:U2 b w wp wp d p S0 S T D [.int .i64 lv,.slice A n c,.slice B m dd,.slice Y k kc,.int .i64 i,.int .i64 j] (lv+1) P X m0 mc (pieces N) none 0 0 [] (grow T w wp):=by
  have O5:=O4.turned (Qx (S:=λ_=>False) b5) λ_ h=>h.elim
  exact⟨L0,O5,c7.bnl,qjr _ _,λg h1 h2=>qua h1 h2,λg hg=>by have:=c7.Qc g hg;omega,λg hg=>by (cases hg),g9⟩
 have x3:=I0.o.x.cell 3 rfl;clear O4 c7 d7 d8 d9 y0 Hp L0;go_wp2_with fail
 go_loopw [7,29] (λl q wr=>∃(a:Nat) (Pa:Pl) (T':Nat->Prop) (X:Option Addr) (m1 mc:Nat) (rest:List Nd) (K:Option Addr) (n1 c1:Nat) (ks:List Qj),a<=k/\n1<=a/\rest.length<=40/\q=.int .i64 (a:Int)/\l=.slice X m1 mc/\U2 b w wp wr d p S0 S T D [.int .i64 lv,.slice A n c,.slice B m dd,.slice Y k kc,.int .i64 i,.int .i64 j] (lv+1) Pa X m1 mc rest K n1 c1 ks T'/\Gs (olds.drop a) Pa rest ks=some (P1,U,b1)) (λ_ q _=>k-(intOf q).toNat)
 case atStart=>exact⟨0,P,_,X,m0,mc,_,none,0,0,[],Nat.zero_le _,Nat.le_refl _,i0,rfl,rfl,I0,hO⟩
 case round=>
  obtain⟨a,Pa,T',X,m1,mc,rest,K,n1,c1,ks,ha,g7,d1,rfl,rfl,I,a6⟩:=hrel;by_cases d4:a<k
  ·rw[qub (by omega)] at a6;obtain⟨g,o,As,ns,cs,Bs,ms,ds,g1,hg,b0,g4⟩:=(hY wr I.l.turn).get d4;obtain⟨⟨sN,G,nx,hd,sh⟩,hs⟩:∃s,Y6 olds a=s:=⟨_,rfl⟩;rw[hs] at a6 b0 g4;subst g1;have f0:=b0 0 _ rfl;have f1:=b0 1 _ rfl;have f2:=b0 2 _ rfl;have f3:=b0 3 _ rfl;have f4:=b0 4 _ rfl;have f5:=b0 5 _ rfl;have f6:=b0 6 _ rfl;rw[Nat.add_zero] at f0;have y0:=I.o.t.cell 0 rfl;have d6:=I.row.len
   cases rest with
   |nil=>
    obtain⟨P2,hv,a7⟩:=qaj a6;obtain rfl:0=m1:=d6;go_wp2_with (first
     |(refine Nw rfl _ _ rfl wr.1.size rfl sN.lvl As ns cs Bs ms ds G (nx:Int) hd sh rfl (F9 wr) rfl ?_;intro w1 E T1
       have f:Below wr.1.size wr w1:=((Below.refl _ _).alloc (Nat.le_refl _) Ud).trans (T1.below (λk hk=>by have:k=wr.1.size:=hk;omega) (by simp));have y:=I.below f Z;have y0:=y.o.t.cell 0 rfl;have e0:=E.cell 0 rfl;have e1:=E.cell 1 rfl;have e2:=E.cell 2 rfl;have e3:=E.cell 3 rfl;have e4:=E.cell 4 rfl;have e5:=E.cell 5 rfl;have e6:=E.cell 6 rfl)
     |fail)
    have Hv:=q57 y.l.sys hb y.l.tab ⟨sN,G,nx,hd,sh⟩ As ns cs Bs ms ds hv;refine Hv.mono ?_;rintro e w2 ⟨rfl,H2,X2,t2⟩;have I2:=y.next (y.l.step H2 X2 t2 (y.l.tidy.leave hv)) (λ_ h=>h) X2 Z;clear f0 f1 f2 f3 f4 f5 f6 e0 e1 e2 e3 e4 e5 e6 y0;go_wp2_with fail
    exact⟨⟨a+1,P2,_,X,0,mc,[],K,n1,c1,ks,by omega,by omega,d1,by go_num,rfl,I2,a7⟩,by simp[intOf];omega⟩
   |cons M rest=>
    rw[List.length_cons] at d6;have i5:¬(m1:Int)=0:=by omega
    have i6:((m1:Int)==0)=false:=by simp;omega
    have i7:(0:Int)<(m1:Int):=by omega
    have i8:0<m1:=by omega
    cases sh with
    |true=>
     obtain⟨P2,hv,a7⟩:=q3x (.inl rfl) a6;go_wp2_with (first
      |(refine Nw rfl _ _ rfl wr.1.size rfl sN.lvl As ns cs Bs ms ds G (nx:Int) hd true rfl (F9 wr) rfl ?_;intro w1 E T1
        have f:Below wr.1.size wr w1:=((Below.refl _ _).alloc (Nat.le_refl _) Ud).trans (T1.below (λk hk=>by have:k=wr.1.size:=hk;omega) (by simp));have y:=I.below f Z;have y0:=y.o.t.cell 0 rfl;have e0:=E.cell 0 rfl;have e1:=E.cell 1 rfl;have e2:=E.cell 2 rfl;have e3:=E.cell 3 rfl;have e4:=E.cell 4 rfl;have e5:=E.cell 5 rfl;have e6:=E.cell 6 rfl)
      |fail)
     have Hv:=q57 y.l.sys hb y.l.tab ⟨sN,G,nx,hd,true⟩ As ns cs Bs ms ds hv;refine Hv.mono ?_;rintro e w2 ⟨rfl,H2,X2,t2⟩;have I2:=y.next (y.l.step H2 X2 t2 (y.l.tidy.leave hv)) (λ_ h=>h) X2 Z;clear f0 f1 f2 f3 f4 f5 f6 e0 e1 e2 e3 e4 e5 e6 y0;go_wp2_with fail
     exact⟨⟨a+1,P2,_,X,m1,mc,M::rest,K,n1,c1,ks,by omega,by omega,d1,by go_num,rfl,I2,a7⟩,by simp[intOf];omega⟩
    |false=>
     obtain⟨fr,d0⟩:∃fr,Pa.C.fresh G=fr:=⟨_,rfl⟩
     cases fr with
     |false=>
      obtain⟨P2,hv,a7⟩:=q3x (.inr d0) a6;go_wp2_with (first
       |(refine Nw rfl _ _ rfl wr.1.size rfl sN.lvl As ns cs Bs ms ds G (nx:Int) hd false rfl (F9 wr) rfl ?_;intro w1 E T1
         have f:Below wr.1.size wr w1:=((Below.refl _ _).alloc (Nat.le_refl _) Ud).trans (T1.below (λk hk=>by have:k=wr.1.size:=hk;omega) (by simp));have y:=I.below f Z;have y0:=y.o.t.cell 0 rfl;have e0:=E.cell 0 rfl;have e1:=E.cell 1 rfl;have e2:=E.cell 2 rfl;have e3:=E.cell 3 rfl;have e4:=E.cell 4 rfl;have e5:=E.cell 5 rfl;have e6:=E.cell 6 rfl)
       |fail)
      refine (q7c y.l.sys.pool G false d0).mono ?_;rintro e _ ⟨rfl,rfl⟩;go_wp2_with fail
      have Hv:=q57 y.l.sys hb y.l.tab ⟨sN,G,nx,hd,false⟩ As ns cs Bs ms ds hv;refine Hv.mono ?_;rintro e w2 ⟨rfl,H2,X2,t2⟩;have I2:=y.next (y.l.step H2 X2 t2 (y.l.tidy.leave hv)) (λ_ h=>h) X2 Z;clear f0 f1 f2 f3 f4 f5 f6 e0 e1 e2 e3 e4 e5 e6 y0;go_wp2_with fail
      exact⟨⟨a+1,P2,_,X,m1,mc,M::rest,K,n1,c1,ks,by omega,by omega,d1,by go_num,rfl,I2,a7⟩,by simp[intOf];omega⟩
     |true=>
      obtain⟨hE,a7⟩:=qak rfl d0 a6;dsimp only at hE a7;obtain⟨J,o2,Am,nm,cm,Bm,mm,dm,d3,b8,m0,a8,m2,O⟩:=I.row.get (show 0<m1 by omega);subst d3;rw[show U8 (M::rest) 0=M from rfl] at m0 O;rw[Nat.zero_mul,Nat.add_zero] at m0 a8 m2;have g8:=O.hn;have g6:=O.hm;have c9:=I.fit M (List.mem_cons_self ..);go_wp2_with (first
       |(refine Nw rfl _ _ rfl wr.1.size rfl sN.lvl As ns cs Bs ms ds G (nx:Int) hd false rfl (F9 wr) rfl ?_;intro w1 E T1
         have f:Below wr.1.size wr w1:=((Below.refl _ _).alloc (Nat.le_refl _) Ud).trans (T1.below (λk hk=>by have:k=wr.1.size:=hk;omega) (by simp));have y:=I.below f Z;have y0:=y.o.t.cell 0 rfl;have e0:=E.cell 0 rfl;have e1:=E.cell 1 rfl;have e2:=E.cell 2 rfl;have e3:=E.cell 3 rfl;have e4:=E.cell 4 rfl;have e5:=E.cell 5 rfl;have e6:=E.cell 6 rfl)
       |fail)
      refine (q7c y.l.sys.pool G true d0).mono ?_;rintro e _ ⟨rfl,rfl⟩;have gy:∀u:Grown w1,u.to.cell? ⟨w.1.size,0,none⟩=some (.pointer (some ⟨p,0,none⟩)):=Grown.cell y0 y.o.t.lt;have g3:∀u:Grown w1,u.to.cell? ⟨wr.1.size,3,none⟩=some (.int .i64 G):=Grown.cell e3 E.lt;have e8:∀u:Grown w1,u.to.cell? ⟨J,o2,none⟩=some (.int .i64 M.lvl):=Grown.cell ((f.cell (p:=⟨J,o2,none⟩) b8).trans m0) (by have:=f.size;show J<_;omega);have e9:∀u:Grown w1,u.to.cell? ⟨J,o2+1,none⟩=some (.slice Am nm cm):=Grown.cell ((f.cell (p:=⟨J,o2+1,none⟩) b8).trans a8) (by have:=f.size;show J<_;omega);have f8:∀u:Grown w1,u.to.cell? ⟨J,o2+2,none⟩=some (.slice Bm mm dm):=Grown.cell ((f.cell (p:=⟨J,o2+2,none⟩) b8).trans m2) (by have:=f.size;show J<_;omega);clear f0 f1 f2 f3 f4 f5 f6 e0 e1 e2 e4 e5 e6;go_wp2_with fail
      refine q1j 8 (by kernel_rfl) (by kernel_rfl) ?_;simp only[List.take_succ_cons,List.take_zero,List.drop_succ_cons,List.drop_zero];repeat (go_big_quiet_step (first|fail))
      refine wpQuiet_nil ?_;rintro _ ⟨u,rfl⟩;have Iu:=y.below u.ok Z;have Hs:=qmc Iu.l.sys hb Iu.l.tab Iu.l.tidy G M Am nm cm Bm mm dm (O.its.Yc Iu.l.turn) (O.Df _ Iu.l.turn) (by omega) (by omega);rw[hE] at Hs;go_wp2_with fail
      refine Hs.mono ?_;rintro e w2 ⟨rfl,H2,X2,t2⟩;have I2:=Iu.next (Iu.l.step H2 X2 t2 (Iu.l.tidy.set G M)) (λ_ h=>h) X2 Z;have R2:=(E.below u.ok E.lt).turned X2 (Iu.l.not (by have:=I.l.turn.size;omega));have c8:w2.1[J]?=wr.1[J]?:=(X2.block J (by have:=f.size;have:=u.ok.size;omega) (I.l.not (by have:=I.Lr J rfl;omega))).trans ((u.ok.block J (by have:=f.size;omega)).trans (f.block J b8));have m0:=(World.cell?_of_block (a:=⟨J,o2,none⟩) c8).trans m0;have a8:=(World.cell?_of_block (a:=⟨J,o2+1,none⟩) c8).trans a8;have m2:=(World.cell?_of_block (a:=⟨J,o2+2,none⟩) c8).trans m2;have z2:J<w2.1.size:=by have:=f.size;have:=u.ok.size;have:=X2.size;omega
      clear gy g3 e8 e9 f8 c8 y0 e3;have F:∀v,Below w2.1.size w2 v->v.cell? ⟨w.1.size+1+1+1,2,none⟩=some (.slice K n1 c1)/\v.cell? ⟨J,o2,none⟩=some (.int .i64 M.lvl)/\v.cell? ⟨J,o2+1,none⟩=some (.slice Am nm cm)/\v.cell? ⟨J,o2+2,none⟩=some (.slice Bm mm dm)/\v.cell? ⟨wr.1.size,3,none⟩=some (.int .i64 G):=λv hv=>
       ⟨(I2.o.k.below hv I2.o.k.lt).c2,(hv.cell (p:=⟨J,o2,none⟩) z2).trans m0,(hv.cell (p:=⟨J,o2+1,none⟩) z2).trans a8,(hv.cell (p:=⟨J,o2+2,none⟩) z2).trans m2,(R2.below hv R2.lt).cell 3 rfl⟩
      have b3:∀q,q01 K=some q->wp.1.size<=q/\q<wr.1.size:=λq hq=>I.kids.Qc q hq
      have zX:=I.Lr J rfl;have j0:wp.1.size<=wr.1.size:=by have:=(I.l.sys.tight _ (I.own (wp.1.size-1) (by omega) (by omega))).2;omega
      have FT:∀v v',Below w2.1.size w2 v->Turn (λq=>q01 K=some q) v v'->v'.cell? ⟨w.1.size+1+1+1,2,none⟩=some (.slice K n1 c1)/\v'.cell? ⟨J,o2,none⟩=some (.int .i64 M.lvl)/\v'.cell? ⟨J,o2+1,none⟩=some (.slice Am nm cm)/\v'.cell? ⟨J,o2+2,none⟩=some (.slice Bm mm dm)/\v'.cell? ⟨wr.1.size,3,none⟩=some (.int .i64 G):=λv v' hv T=>by
       have hs:=hv.size;have e1:v'.1[w.1.size+1+1+1]?=v.1[w.1.size+1+1+1]?:=T.block _ (by have:=I2.o.k.lt;omega) (λh=>by have:=(b3 _ h).1;omega);have e2:v'.1[J]?=v.1[J]?:=T.block _ (by omega) (λh=>by have:=(b3 _ h).1;omega);have e3:v'.1[wr.1.size]?=v.1[wr.1.size]?:=T.block _ (by have:=R2.lt;omega) (λh=>by have:=(b3 _ h).2;omega);obtain⟨x1,x2,x3,x4,x5⟩:=F v hv;exact⟨(World.cell?_of_block (a:=⟨_,2,none⟩) e1).trans x1,(World.cell?_of_block (a:=⟨J,o2,none⟩) e2).trans x2,(World.cell?_of_block (a:=⟨J,o2+1,none⟩) e2).trans x3,(World.cell?_of_block (a:=⟨J,o2+2,none⟩) e2).trans x4,(World.cell?_of_block (a:=⟨_,3,none⟩) e3).trans x5⟩
      clear m0 a8 m2;have HK:=λ(v:World) (hv:Below w2.1.size w2 v)=>qfn M c9 G Am nm cm Bm mm dm v (O.its.Yc (I2.l.turn.then (Qx hv))) (O.Df _ (I2.l.turn.then (Qx hv))) (by omega) (by omega)
      obtain⟨z,hz⟩:∃z,M.least=z:=⟨_,rfl⟩;rw[hz] at HK a7;unfold Xw Qj.vs at HK;dsimp only at HK;replace HK:=Lib.hid HK;have b9:=Lib.hid (λ(v:World)=>(qq4 v ⟨z,G⟩:Zk (v.alloc (.cells #[.int .i64 z.obj,.int .i64 z.kind,.int .i64 z.off,.int .i64 G] 148)) (some ⟨v.1.size,0,none⟩) 1 1 [⟨z,G⟩]));have j8:n1<=1000:=by omega
      have j7:wp.1.size<=w2.1.size:=by have:=f.size;have:=u.ok.size;have:=X2.size;omega
      have W:Below w2.1.size w2 w2.drew:=(Below.refl _ _).drew;clear hz;go_wp2_with fail
      obtain⟨q1,q2,q3,q4,q5⟩:=F _ W;go_region_law (first
       |(rw[if_pos (by rfl)];refine q6m (base:=wp.1.size) (.tmp 70) (.tmp 77) (by rfl) (by rfl) (I2.kids.below (W.alloc W.size (.cells #[.int .i64 z.obj,.int .i64 z.kind,.int .i64 z.off,.int .i64 G] 148))) (by rfl) (b9.out _) (by omega) (by have:=(W.alloc W.size (.cells #[.int .i64 z.obj,.int .i64 z.kind,.int .i64 z.off,.int .i64 G] 148)).size;omega) ?_;intro K6 c6 w6 k6 T6 b6;have bA:=W.alloc W.size (.cells #[.int .i64 z.obj,.int .i64 z.kind,.int .i64 z.off,.int .i64 G] 148);have I6:=Lib.hid (I2.more Z bA k6 T6 b6);have N6:=(I2.o.k.below bA I2.o.k.lt).turned T6 (λh=>by have:=(b3 _ h).1;omega);have f2:=N6.fz 2;have p2:=N6.c2;clear N6 k6 T6 b6)
       |(go_simp;go_at_call 238;(with_reducible refine (HK.out _ W).mono ?_);rintro e wX ⟨rfl,hX⟩;replace W:=W.trans (hX.mono W.size);clear hX q1 q2 q3 q4 q5;obtain⟨q1,q2,q3,q4,q5⟩:=F _ W;obtain⟨r1,r2,r3,r4,r5⟩:=F _ (W.alloc W.size (.cells #[.int .i64 z.obj,.int .i64 z.kind,.int .i64 z.off,.int .i64 G] 148))))
      all_goals (
       go_wp2_with fail
       rw[List.length_cons] at d1;obtain⟨o',eo,I7⟩:=I6.out.tail;rw[eo];exact⟨⟨a+1,Pa.Vp G M,_,some ⟨J,o',none⟩,m1-1,mc-1,rest,K6,n1+1,c6,ks++[⟨z,G⟩],by omega,by omega,by omega,by go_num,rfl,I7,a7⟩,by simp[intOf];omega⟩)
  ·obtain⟨rfl,rfl,rfl⟩:Pa=P1/\rest=U/\ks=b1:=by
    rw[List.drop_eq_nil_of_le (by omega)] at a6;unfold Gs at a6;injection Option.some.inj a6 with e1 e2;injection e2 with e2 e3;exact⟨e1,e2,e3⟩
   have d6:=I.row.len;have g5:¬(a:Int)<(k:Int):=by omega
   clear a6 hO;go_wp2_with fail
   go_loopw [86] (λq wr=>∃(a2:Nat) (Pb:Pl) (T2:Nat->Prop) (K:Option Addr) (n1 c1:Nat) (ks:List Qj),a2<=m1/\n1<=k+a2/\q=.int .i64 (a2:Int)/\U2 b w wp wr d p S0 S T D [.int .i64 lv,.slice A n c,.slice B m dd,.slice Y k kc,.int .i64 i,.int .i64 j] (lv+1) Pb X m1 mc rest K n1 c1 ks T2/\J7 (rest.drop a2) Pb ks=some (P',r)) (λq _=>m1-(intOf q).toNat)
   case atStart=>exact⟨0,Pa,_,K,n1,c1,ks,Nat.zero_le _,by omega,rfl,I,hN⟩
   case round=>
    clear I;obtain⟨a2,Pb,T2,K,n1,c1,ks,i4,g7,rfl,I,b2⟩:=hrel;by_cases d4:a2<m1
    ·rw[qxo (by omega)] at b2;obtain⟨J,o2,Am,nm,cm,Bm,mm,dm,d3,b8,m0,a8,m2,O⟩:=I.row.get d4;have c9:=I.fit (U8 rest a2) (by have:=List.mem_of_getElem? (q4u (Ns:=rest) (j:=a2) (by omega));exact this);obtain⟨M,hM⟩:∃M,U8 rest a2=M:=⟨_,rfl⟩;rw[hM] at b2 O c9 m0;subst d3;have g8:=O.hn;have g6:=O.hm;have y0:=I.o.t.cell 0 rfl;go_wp2_with (first
      |(refine q1v rfl _ _ rfl wr.1.size rfl M.lvl Am nm cm Bm mm dm rfl (NB.new wr 0 none 0 0 none 0 0 178) ?_;intro w1 E T1
        have f:Below wr.1.size wr w1:=(Qk).trans (T1.below (λk hk=>by have:k=wr.1.size:=hk;omega) (by simp));have y:=I.below f Z;have y0:=y.o.t.cell 0 rfl;have e0:=E.c0;have e1:=E.c1;have e2:=E.c2)
      |fail)
     have Hp:=qbv y.l.sys hb y.l.tab M Am nm cm Bm mm dm (λu hu=>⟨O.its.Yc (y.l.turn.then hu),O.Df _ (y.l.turn.then hu)⟩) (by omega) (by omega);have zw:wp.1.size<=wr.1.size:=by have:=(I.l.sys.tight _ (I.own (wp.1.size-1) (by omega) (by omega))).2;omega
     have b3:∀q,q01 K=some q->wp.1.size<=q/\q<wr.1.size:=λq hq=>I.kids.Qc q hq
     rcases qal b2 with⟨hE,d2⟩|⟨hE,hR⟩
     ·rw[hE] at Hp;refine Hp.mono ?_;rintro e w2 ⟨rfl,H2,X2,t2⟩;have I2:=y.next (y.l.step H2 X2 t2 (y.l.tidy.put M)) (λ_ h=>h) X2 Z;have R2:=E.turned X2 (y.l.not (by omega));have zs:=f.size;have j9:=X2.size;obtain⟨G,e7⟩:∃G,Pb.Yz M=G:=⟨_,rfl⟩;rw[e7] at d2 ⊢;have F:∀v,Below w2.1.size w2 v->v.cell? ⟨w.1.size+1+1+1,2,none⟩=some (.slice K n1 c1)/\v.cell? ⟨wr.1.size,0,none⟩=some (.int .i64 M.lvl)/\v.cell? ⟨wr.1.size,1,none⟩=some (.slice Am nm cm)/\v.cell? ⟨wr.1.size,2,none⟩=some (.slice Bm mm dm):=λv hv=>
       have r:=R2.below hv R2.lt;⟨(I2.o.k.below hv I2.o.k.lt).c2,r.c0,r.c1,r.c2⟩
      clear y0 e0 e1 e2 m0 a8 m2 e7;have HK:=λ(v:World) (hv:Below w2.1.size w2 v)=>qfn M c9 G Am nm cm Bm mm dm v (O.its.Yc (I2.l.turn.then (Qx hv))) (O.Df _ (I2.l.turn.then (Qx hv))) (by omega) (by omega)
      obtain⟨z,hz⟩:∃z,M.least=z:=⟨_,rfl⟩;rw[hz] at HK d2;unfold Xw Qj.vs at HK;dsimp only at HK;replace HK:=Lib.hid HK;have b9:=Lib.hid (λ(v:World)=>(qq4 v ⟨z,G⟩:Zk (v.alloc (.cells #[.int .i64 z.obj,.int .i64 z.kind,.int .i64 z.off,.int .i64 G] 148)) (some ⟨v.1.size,0,none⟩) 1 1 [⟨z,G⟩]));have i3:m1<=40:=by omega
      have W:Below w2.1.size w2 w2.drew:=(Below.refl _ _).drew;clear hz;go_wp2_with fail
      obtain⟨q1,q2,q3,q4⟩:=F _ W;go_region_law (first
       |(rw[if_pos (by rfl)];refine q6m (base:=wp.1.size) (.tmp 104) (.tmp 108) (by rfl) (by rfl) (I2.kids.below (W.alloc W.size (.cells #[.int .i64 z.obj,.int .i64 z.kind,.int .i64 z.off,.int .i64 G] 148))) (by rfl) (b9.out _) (by omega) (by have:=(W.alloc W.size (.cells #[.int .i64 z.obj,.int .i64 z.kind,.int .i64 z.off,.int .i64 G] 148)).size;omega) ?_;intro K6 c6 w6 k6 T6 b6;have bA:=W.alloc W.size (.cells #[.int .i64 z.obj,.int .i64 z.kind,.int .i64 z.off,.int .i64 G] 148);have I6:=Lib.hid (I2.more Z bA k6 T6 b6);have N6:=(I2.o.k.below bA I2.o.k.lt).turned T6 (λh=>by have:=(b3 _ h).1;omega);have f2:=N6.fz 2;have p2:=N6.c2;clear N6 k6 T6 b6)
       |(go_simp;go_at_call 238;(with_reducible refine (HK.out _ W).mono ?_);rintro e wX ⟨rfl,hX⟩;replace W:=W.trans (hX.mono W.size);clear hX q1 q2 q3 q4;obtain⟨q1,q2,q3,q4⟩:=F _ W;obtain⟨r1,r2,r3,r4⟩:=F _ (W.alloc W.size (.cells #[.int .i64 z.obj,.int .i64 z.kind,.int .i64 z.off,.int .i64 G] 148))))
      all_goals (
       go_wp2_with fail
       exact⟨⟨a2+1,Pb.Jj M,_,K6,n1+1,c6,ks++[⟨z,G⟩],by omega,by omega,by go_num,I6.out,d2⟩,by simp[intOf];omega⟩)
     ·rw[hE] at Hp;refine Hp.mono ?_;rintro e w2 ⟨rfl,H2,X2,t2⟩;have I2:=y.next (y.l.step H2 X2 t2 (y.l.tidy.put M)) (λ_ h=>h) X2 Z;injection hR with f9 g0;subst f9 g0;have NR:=I2.o.r;clear y0 e0 e1 e2 m0 a8 m2;go_wp2_with (first
       |(refine q1v rfl _ _ rfl (w.1.size+2) rfl 0 none 0 0 none 0 0 rfl NR ?_;intro w3 R3 T3)
       |fail)
      refine bodyPost_ret (Ak Tryz.results191 rfl (qag R3)) rfl ?_;have L3:=I2.l.own T3 (λk hk=>by have hk:k=w.1.size+2:=hk;exact⟨I2.own k (by omega) (by omega),by omega⟩);exact⟨none,0,0,none,0,0,0,rfl,λ_ h=>(by cases h),L3.done,L3.turn,L3.tab,L3.tidy⟩
    ·obtain⟨rfl,rfl⟩:Pb=P'/\some ks=r:=by
      rw[List.drop_eq_nil_of_le (by omega)] at b2;unfold J7 at b2;injection Option.some.inj b2 with e1 e2;exact⟨e1,e2⟩
     have g5:¬(a2:Int)<(m1:Int):=by omega
     have NR:=I.o.r;have k0:=I.o.k.c0;have k1:=I.o.k.c1;have k2:=I.o.k.c2;go_wp2_with (first
      |(refine q1v rfl _ _ rfl (w.1.size+2) rfl (lv+1) none 0 0 K n1 c1 rfl NR ?_;intro w3 R3 T3)
      |fail)
     refine bodyPost_ret (Ak Tryz.results191 rfl (qag R3)) rfl ?_;have L3:=I.l.own T3 (λk hk=>by have hk:k=w.1.size+2:=hk;exact⟨I.own k (by omega) (by omega),by omega⟩);have kk:=I.kids.turned T3 (λg hg h=>by have h:g=w.1.size+2:=h;have:=(I.kids.Qc g hg).1;omega);have ss:=Qr.Uo kk (by omega);have ln:=kk.len;refine⟨none,0,0,K,n1,c1,lv+1,rfl,?_,L3.done,L3.turn,L3.tab,L3.tidy⟩;exact⟨rfl,qpu _,λu hu=>Qr.Uo (Qr.turned kk hu λg hg=>L3.not (by have:=(kk.Qc g hg).1;omega)) (by omega),rfl,kk.len,⟨by omega,by omega,by unfold maxLen;omega⟩,⟨by omega,ss.cap,ss.max⟩⟩
end
