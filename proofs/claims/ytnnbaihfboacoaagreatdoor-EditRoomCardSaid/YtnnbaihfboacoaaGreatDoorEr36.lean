/- The code's edit: pieces -/
import Derived.Test.YtnnbaihfboacoaaGreatDoorEr35
namespace Go.Proofs.YtnnbaihfboacoaaGreatDoor
open Go Go.RowKit Go.Proofs
set_option maxHeartbeats 8000000
set_option maxRecDepth 100000
theorem TBn:Em Tryz.prog 209 127 3 56 (.agg #[.int .i64 0,.slice none 0 0,.slice none 0 0]):=⟨Tryz.underlying209,by kernel_rfl,rfl,by omega⟩
def Gh (Q:World->Prop)(w:World)(base:Nat)(A:Option Addr)(n c:Nat)(Ns:List Nd):Prop:=
 ∃e,Qs w base 127 3 A n c e/\e.length=Ns.length/\∀(j:Nat) r N,e[j]?=some r->Ns[j]?=some N->∃A n c B m d,r=Vg N.lvl A n c B m d/\Jl Q N A n c B m d
section
variable {Q:World->Prop}{w w':World}{base n c:Nat}{A:Option Addr}{Ns:List Nd}
theorem qth (Q:World->Prop)(w:World)(base:Nat):Gh Q w base none 0 0 []:=⟨[],q10 _ _ _ _,rfl,λj r x e=>by simp at e⟩
theorem Gh.below (h:Gh Q w base A n c Ns)(hb:Below w.1.size w w'):Gh Q w' base A n c Ns:=by
 obtain⟨e,h1,h2⟩:=h;exact⟨e,h1.below hb,h2⟩
theorem Gh.bnl (h:Gh Q w base A n c Ns):Ac Q w A n c Ns:=by
 obtain⟨e,h1,h2⟩:=h;exact⟨e,h1.Vs (by omega),h2⟩
theorem Gh.Qa (h:Gh Q w base A n c Ns):∀k,q01 A=some k->base<=k/\k<w.1.size:=by
 obtain⟨e,h1,_⟩:=h;exact h1.Qa
theorem qec (ty:TypeId)(E:Gh Q w base A n c Ns){B:Option Addr}{d:Nat}{N:Nd}{M:Option Addr}{Y c1:Nat}{O:Option Addr}{W U:Nat}
  (e:Jf w 3 B 1 d [Vg N.lvl M Y c1 O W U]) (hq:Jl Q N M Y c1 O W U) (hn:n<=1000) (f:base<=w.1.size) :
  ∃I J w',(Builtin.append_ #[209,209] ty #[.slice A n c,.slice B 1 d]).run Tryz.prog w=.ok (.slice I (n+1) J) w'/\Gh Q w' base I (n+1) J (Ns++[N])/\Below base w w':=by
 obtain⟨u,h1,h2,Z⟩:=E;obtain⟨I,J,w',F,H,hb⟩:=q8i (P:=Tryz.prog) w TBn ty base A n c u h1 B 1 d _ e (by omega) (qsm _ _ _ _ _ _ _) (by omega) (by omega) f;refine⟨I,J,w',F,⟨_,H,by simp[h2],λj r' x e G=>?_⟩,hb⟩;by_cases hj:j<u.length
 ·rw[List.getElem?_append_left hj] at e;rw[List.getElem?_append_left (by omega)] at G;exact Z j r' x e G
 ·rw[List.getElem?_append_right (by omega)] at e G;have y:j-u.length=0:=by
   have:=(List.getElem?_eq_some_iff.1 e).1;simp at this;omega
  rw[y] at e;rw[<-h2,y] at G;obtain rfl:=Option.some.inj e;obtain rfl:=Option.some.inj G;exact⟨_,_,_,_,_,_,rfl,hq⟩
theorem qbq {o:Oper}{a:Act}{K:Act->World->Prop}{O:Exit->Act->World->Prop}(M x:Operand)
  (W:o.op=.call { callee:=.builtin .append,args:=#[M,x],argTypes:=#[209,209] })
  (hs:a.eval M=.slice A n c) (f:Gh Q w base A n c Ns) {B:Option Addr} {d:Nat} (hx:a.eval x=.slice B 1 d) {N:Nd} {F:Option Addr} {J c1:Nat} {G:Option Addr} {I H:Nat}
  (Z:Jf w 3 B 1 d [Vg N.lvl F J c1 G I H]) (Y:Jl Q N F J c1 G I H) (hn:n<=1000) (e:base<=w.1.size)
  (h:∀y E w',Gh Q w' base y (n+1) E (Ns++[N])->Below base w w'->K (a.put o.dst (.slice y (n+1) E)) w') :
  Oper.wp Tryz.prog o a w K O:=by
 obtain⟨y,E,w',u,h2,U⟩:=qec (ty:=o.type) f Z Y hn e;unfold Oper.wp execOp;simp only[W,resolve,invoke,builtin,Sem.run_bind,Sem.run_pure,Result.andThen_ok,List.map_toArray,List.map_cons,List.map_nil,hs,hx,u];exact h y E w' h2 U
end
theorem qwi (w:World)(l:Int)(A:Option Addr)(n c:Nat)(B:Option Addr)(m d:Nat):Jf (w.alloc (.cells #[.int .i64 l,.slice A n c,.slice B m d] 127)) 3 (some ⟨w.1.size,0,none⟩) 1 1 [Vg l A n c B m d]:=(q1q w 127 3 (Vg l A n c B m d) _ rfl rfl).Vs (by omega)
theorem qi6 {N:Nd}{j:Nat}(h:j<parts N):(pieces N).take (j+1)=(pieces N).take j++[N.cut (N.size*j / parts N) (N.size*(j+1) / parts N)]:=by
 have e:(pieces N).length=parts N:=by unfold pieces;simp
 rw[List.take_succ_eq_append_getElem (by omega)];congr 2
 unfold pieces;simp
theorem qi7 {Q:World->Prop}{N:Nd}{A B:Option Addr}{n c m d:Nat}(hB:Jl Q N A n c B m d)(a6:N.fit)(e5:N.size<=60)(w:World) :
  Calls Tryz.prog 143 #[Xy N.lvl A n c B m d] w λe w'=>∃X k kc,e=.returned (.slice X k kc)/\Gh Q w' w.1.size X k kc (pieces N)/\Below w.1.size w w':=by
 have I:=hB.size;have hn:=hB.hn;have hm:=hB.hm;obtain⟨z,hz⟩:∃z,N.size=z:=⟨_,rfl⟩;obtain⟨P,hP⟩:∃P,parts N=P:=⟨_,rfl⟩;obtain⟨f,M⟩:∃f,Qq N.lvl=f:=⟨_,rfl⟩;have d4:6<=f/\f<=12:=by rw[<-M];unfold Qq;split<;>omega
 have Z:(z+f-1) / f=P:=by rw[<-hP,<-hz,<-M];rfl
 have c8:P<=100:=by rw[<-Z];exact Nat.le_trans (Nat.div_le_self _ _) (by omega)
 have Y:NB (w.alloc (.cells #[.int .i64 N.lvl,.slice A n c,.slice B m d] 127)) w.1.size N.lvl A n c B m d:=NB.new w _ _ _ _ _ _ _ _;have b1:Below w.1.size w (w.alloc (.cells #[.int .i64 N.lvl,.slice A n c,.slice B m d] 127)):=Qm;have HL:=λu=>q3d N.lvl A n c B m d u
 have HS:=λu=>q29 N.lvl A n c B m d (by omega) (by omega) u
 rw[M] at HL;rw[<-I,hz] at HS;have c0:=Y.c0;have c1:=Y.c1;have c2:=Y.c2;unfold Xy at HL HS ⊢;replace HL:=Lib.hid HL;replace HS:=Lib.hid HS;have e6:IntKind.i64.wrap ((z:Int)+(f:Int))=((z+f:Nat):Int):=by rw[show (z:Int)+(f:Int)=((z+f:Nat):Int) by omega];exact IntWalk.i64_in _ (by omega)
 have e7:IntKind.i64.wrap (((z+f:Nat):Int)-1)=((z+f-1:Nat):Int):=by rw[show ((z+f:Nat):Int)-1=((z+f-1:Nat):Int) by omega];exact IntWalk.i64_in _ (by omega)
 have hq:((z:Int)+(f:Int)-1) / (f:Int)=(P:Int):=by
  rw[<-Z,show (z:Int)+(f:Int)-1=((z+f-1:Nat):Int) by omega];exact (Int.natCast_ediv _ _).symm
 have d3:((f:Int)==0)=false:=by simp;omega
 go_enter Tryz.func143,Tryz.ntmps143
 go_wp2_with fail
 generalize w.alloc (.cells #[.int .i64 N.lvl,.slice A n c,.slice B m d] 127)=w1 at Y b1 c0 c1 c2 ⊢;refine (HL.out w1).mono ?_;rintro e w2 ⟨rfl,b2⟩;have N2:=Y.below b2 Y.lt;have c0:=N2.c0;have c1:=N2.c1;have c2:=N2.c2;go_wp2_with fail
 refine (HS.out w2).mono ?_;rintro e w3 ⟨rfl,b3⟩;have N3:=N2.below b3 N2.lt;have BB:=b1.trans ((b2.trans (b3.mono b2.size)).mono b1.size);have z1:=N3.lt;clear c0 c1 c2 Y N2 b1 b2 b3;go_wp2_with fail
 simp only[hq];clear hq;go_loopw [6,21] (λl i wr=>∃(j:Nat) (X:Option Addr) (kc:Nat),j<=P/\i=.int .i64 (j:Int)/\l=.slice X j kc/\Gh Q wr (w.1.size+1) X j kc ((pieces N).take j)/\NB wr w.1.size N.lvl A n c B m d/\Below w.1.size w wr) (λ_ i _=>P-(intOf i).toNat)
 case atStart=>exact⟨0,none,0,Nat.zero_le _,rfl,rfl,qth _ _ _,N3,BB⟩
 case round=>
  obtain⟨j,X,kc,hj,rfl,rfl,own,NN,hb⟩:=hrel;have zN:=NN.lt;have zb:=hb.size;have a2:w.1.size+1<=wr.1.size:=zN;by_cases b9:j<P
  ·have HT:=Lib.hid (qi6 (N:=N) (j:=j) (by rw[hP];exact b9));obtain⟨lo,H⟩:∃lo,z*j / P=lo:=⟨_,rfl⟩;obtain⟨F,E⟩:∃F,z*(j+1) / P=F:=⟨_,rfl⟩;have a7:lo<=F:=by rw[<-H,<-E];exact Nat.div_le_div_right (Nat.mul_le_mul_left _ (by omega))
   have d8:F<=z:=by
    rw[<-E];exact Nat.le_trans (Nat.div_le_div_right (Nat.mul_le_mul_left z (show j+1<=P by omega))) (by rw[Nat.mul_div_cancel _ (by omega)];exact Nat.le_refl _)
   have a1:=qai hB a6 (j:=F) (by omega);obtain⟨A1,n1,c1,B1,m1,d1,e1,q1,l1⟩:=q7t hB a7 a1;have HC:=λu=>q3o N.lvl A n c B m d lo F a7 a1 ⟨hn.2.1,hn.2.2⟩ ⟨hm.2.1,hm.2.2⟩ u
   rw[e1] at HC;unfold Xy at HC;replace HC:=Lib.hid HC;have c6:z*j<=6000:=by have:=Nat.mul_le_mul (show z<=60 by omega) (show j<=100 by omega);omega
   have b0:z*(j+1)<=6060:=by have:=Nat.mul_le_mul (show z<=60 by omega) (show j+1<=101 by omega);omega
   have d0:((P:Int)==0)=false:=by simp;omega
   obtain⟨p1,O⟩:∃p1,z*j=p1:=⟨_,rfl⟩;obtain⟨p2,U⟩:∃p2,z*(j+1)=p2:=⟨_,rfl⟩;rw[O] at c6 H;rw[U] at b0 E;have v1:IntKind.i64.wrap ((z:Int)*(j:Int))=(p1:Int):=by rw[<-O,<-Int.natCast_mul];exact IntWalk.i64_in _ (by omega)
   have v2:IntKind.i64.wrap ((z:Int)*((j:Int)+1))=(p2:Int):=by rw[show (z:Int)*((j:Int)+1)=((z*(j+1):Nat):Int) by rw[Int.natCast_mul];rfl,U];exact IntWalk.i64_in _ (by omega)
   have v3:(p1:Int) / (P:Int)=(lo:Int):=by rw[<-H];exact (Int.natCast_ediv _ _).symm
   have v4:(p2:Int) / (P:Int)=(F:Int):=by rw[<-E];exact (Int.natCast_ediv _ _).symm
   have b8:lo<=60:=by omega
   have b7:F<=60:=by omega
   have v5:IntKind.i64.wrap (F:Int)=(F:Int):=IntWalk.i64_in _ (by omega);have v6:IntKind.i64.wrap (lo:Int)=(lo:Int):=IntWalk.i64_in _ (by omega);obtain⟨J,hJ⟩:∃J,j+1=J:=⟨_,rfl⟩;have e0:IntKind.i64.wrap ((j:Int)+1)=(J:Int):=by rw[<-hJ];exact IntWalk.i64_in _ (by omega)
   have e2:IntKind.i64.wrap ((z:Int)*(J:Int))=(p2:Int):=by rw[<-hJ];exact v2
   have e3:(p1:Int).tdiv (P:Int)=(lo:Int):=by rw[<-v3];exact Int.tdiv_eq_ediv_of_nonneg (by omega)
   have e4:(p2:Int).tdiv (P:Int)=(F:Int):=by rw[<-v4];exact Int.tdiv_eq_ediv_of_nonneg (by omega)
   replace hJ:=Lib.hid hJ;have b4:¬(P:Int)=0:=by omega
   have c9:¬P=0:=by omega
   have d6:decide ((P:Int)=0)=false:=decide_eq_false b4;have d5:z<=60:=by omega
   have b6:=Lib.hid (show (pieces N).take (j+1)=(pieces N).take j++[N.cut lo F] by rw[HT.out,hP,hz,O,U,H,E]);have a8:=Lib.hid (λ(u:World)=>(l1.symm▸qwi u N.lvl A1 n1 c1 B1 m1 d1:Jf (u.alloc (.cells #[.int .i64 N.lvl,.slice A1 n1 c1,.slice B1 m1 d1] 127)) 3 (some ⟨u.1.size,0,none⟩) 1 1 [Vg (N.cut lo F).lvl A1 n1 c1 B1 m1 d1]));clear e1 a1 hz hP I O U H E HT M Z l1;have cells:∀u,Below (w.1.size+1) wr u->u.cell? ⟨w.1.size,0,none⟩=some (.int .i64 N.lvl)/\u.cell? ⟨w.1.size,1,none⟩=some (.slice A n c)/\u.cell? ⟨w.1.size,2,none⟩=some (.slice B m d):=λu hu=>
    have N':=NN.below hu (by omega);⟨N'.c0,N'.c1,N'.c2⟩
   have y:Below wr.1.size wr wr.drew:=(Below.refl _ _).drew;go_wp2_with fail
   go_region_held3 (λu=>u.cell? ⟨w.1.size,0,none⟩=some (.int .i64 N.lvl)/\u.cell? ⟨w.1.size,1,none⟩=some (.slice A n c)/\u.cell? ⟨w.1.size,2,none⟩=some (.slice B m d))
    (first|(with_reducible assumption)|(with_reducible exact cells _ (y.mono a2))|(with_reducible exact cells _ ((y.alloc y.size _).mono a2))|(with_reducible exact b5.out))
    (first
     |(go_at_call 108;(with_reducible refine (HS.out _).mono ?_);rintro e wX ⟨rfl,hX⟩;replace y:=y.trans (hX.mono y.size);clear hX)
     |(go_at_call 107;(with_reducible refine (HC.out _).mono ?_);rintro e wX ⟨rfl,hX⟩;replace y:=y.trans (hX.mono y.size);clear hX)
     |(rw[if_pos (by rfl)];refine qbq (Q:=Q) (base:=w.1.size+1) (.tmp 24) (.tmp 40) (by rfl) (by rfl) (own.below (y.alloc y.size (.cells #[.int .i64 N.lvl,.slice A1 n1 c1,.slice B1 m1 d1] 127))) (by rfl) (a8.out _) q1 (by omega) (by have:=(y.alloc y.size (.cells #[.int .i64 N.lvl,.slice A1 n1 c1,.slice B1 m1 d1] 127)).size;omega) ?_;intro X' c7 w6 W G;have bA:=y.alloc y.size (.cells #[.int .i64 N.lvl,.slice A1 n1 c1,.slice B1 m1 d1] 127);have G:=(bA.mono a2).trans G;have b5:=Lib.hid (cells w6 G))
     |fail)
   all_goals (
    go_wp2_with fail
    rw[<-b6.out] at W;exact⟨⟨j+1,X',c7,by omega,by rw[<-hJ.out],rfl,W,NN.below G (by omega),hb.trans (G.mono (by omega))⟩,by simp[intOf];have:=hJ.out;omega⟩)
  ·have d9:P<=j:=by omega
   have d7:¬(j:Int)<(P:Int):=by omega
   have d2:(pieces N).length=P:=by rw[<-hP];unfold pieces;simp
   rw[List.take_of_length_le (by omega)] at own;go_wp2;go_ret;exact⟨X,j,kc,rfl,⟨own.choose,own.choose_spec.1.less (by omega),own.choose_spec.2⟩,hb⟩
structure Pl.tidy (P:Pl):Prop where
 kind:∀a b,P.L a=some b->b.kindOk
 laid:∀a:Nat,P.C.fresh (a:Int)=true->∃b,P.L a=some b
section
variable {P:Pl}
theorem qcm {C:Ct}{c:Nat}{x:Int}(h0:C.get (c:Int)≠0){a:Nat}(h:(C.put c x).fresh (a:Int)=true):C.fresh (a:Int)=true:=by
 have f:a<C.n:=by
  obtain⟨n,e,hn⟩:=Ae (q31 h);rw[C.Zi] at hn;omega
 unfold Ct.fresh at h ⊢;rw[q2q C a f] at h;by_cases e:a=c
 ·subst e;rw[if_pos rfl] at h;rw[if_neg h0];split at h
  ·cases h
  ·exact h
 ·rw[if_neg e] at h;exact h
theorem Pl.tidy.Qy (h:P.tidy)(a:Int):Pl.tidy ⟨P.S,P.C.Qy a,P.L⟩:=by
 refine⟨h.kind,λc e=>h.laid c ?_⟩;have e:(P.C.Qy a).fresh (c:Int)=true:=e;unfold Ct.Qy at e;split at e
 ·exact e
 ·rename_i h0;obtain⟨n,rfl,hn⟩:=Ae h0;rw[Int.toNat_natCast] at e;exact qcm h0 e
theorem Pl.tidy.ref (h:P.tidy)(a:Int):Pl.tidy ⟨P.S,P.C.ref a,P.L⟩:=by
 refine⟨h.kind,λc f=>h.laid c ?_⟩;have f:(P.C.ref a).fresh (c:Int)=true:=f;unfold Ct.ref at f;split at f
 ·rename_i u;have h0:P.C.get a≠0:=λe=>by unfold Ct.Y8 at u;rw[if_pos e] at u;cases u
  obtain⟨n,rfl,hn⟩:=Ae h0;rw[Int.toNat_natCast] at f;exact qcm h0 f
 ·exact f
theorem Pl.tidy.set (h:P.tidy)(a:Int)(N:Nd):(P.Vq a N).tidy:=by
 unfold Pl.Vq;split
 ·refine⟨λc x f=>?_,λc u=>?_⟩
  ·have f:upd P.L a.toNat (some (.node N)) c=some x:=f;by_cases e:c=a.toNat
   ·subst e;rw[Aw] at f;obtain rfl:=Option.some.inj f;exact trivial
   ·rw[Ar _ _ e] at f;exact h.kind c x f
  ·show ∃b,upd P.L a.toNat (some (.node N)) c=some b;by_cases e:c=a.toNat
   ·subst e;exact⟨_,Aw _ _ _⟩
   ·rw[Ar _ _ e];exact h.laid c u
 ·exact h
theorem Pl.tidy.put (h:P.tidy)(N:Nd):(P.Zn N).tidy:=by
 unfold Pl.Zn;split
 ·cases u:P.C.pick with
  |none=>rw[qdx u];exact h
  |some a=>
   have G:=(Ct.Xk u).2.2.1;have F:=(Ct.Xk u).1;refine⟨λc x y=>?_,λc f=>?_⟩
   ·rw[qfc u] at y;split at y
    ·obtain rfl:=Option.some.inj y;exact trivial
    ·exact h.kind c x y
   ·rw[qfc u];by_cases e:c=a
    ·exact⟨_,if_pos e⟩
    ·rw[if_neg e];refine h.laid c ?_;rw[q37 u] at f;have f:P.C.alloc.fresh (c:Int)=true:=f;rw[(Ct.Xv u).2.2] at f;have B:c<P.C.n:=by
      obtain⟨n,E,h2⟩:=Ae (q31 f);rw[P.C.Zi] at h2;omega
     unfold Ct.fresh at f ⊢;rw[q2q P.C c B,if_neg e] at f;exact f
 ·exact h
theorem Pl.tidy.leave {P':Pl}{s:Qu}(h:P.tidy)(hl:P.leave s=some P'):P'.tidy:=by
 unfold Pl.leave at hl;split at hl
 ·obtain rfl:=Option.some.inj hl;exact h
 ·split at hl
  ·obtain rfl:=Option.some.inj hl;exact h.Qy _
  ·cases hl
theorem qg9:∀(f:List Int) {P P':Pl},P.tidy->Um f P=some P'->P'.tidy
 |[],P,P',h,e=>by obtain rfl:=Option.some.inj e;exact h
 |a::r,P,P',h,e=>by
  have e:(if P.C.Y8 a=0 then Um r ⟨P.S,P.C.ref a,P.L⟩ else none)=some P':=e;split at e
  ·exact qg9 r (h.ref a) e
  ·cases e
theorem qak:∀(f:List Int) {P P':Pl},P.tidy->q3g f P=some P'->P'.tidy
 |[],P,P',h,e=>by obtain rfl:=Option.some.inj e;exact h
 |a::r,P,P',h,e=>by
  have e:(if P.C.Jz a=0 then q3g r ⟨P.S,P.C.Qy a,P.L⟩ else none)=some P':=e;split at e
  ·exact qak r (h.Qy a) e
  ·cases e
theorem Pl.tidy.Qx {P':Pl}{s:Qu}{i j:Nat}(h:P.tidy)(hl:P.Qx s i j=some P'):P'.tidy:=by
 unfold Pl.Qx at hl;split at hl
 ·exact qg9 _ h hl
 ·split at hl
  ·obtain rfl:=Option.some.inj hl;exact h
  ·exact qak _ h hl
end
section
variable {b:Nat}{w w':World}{d p:Nat}{S0 S T S':Nat->Prop}{D:DM}{P P':Pl}
theorem Qi.grown (H:Qi b w d p S0 S T D P)(t:Turn S' w w')(hT:∀k,S' k->T k)(h0:∀k,S' k->¬S0 k)(h1:∀k,S' k->¬S k):Qi b w' d p S0 S (grow T w w') D P:=by
 have y:=H.base;have u:=H.Cj;have F:=t.size;have f:∀k,T k->grow T w w' k:=λk e=>⟨.inl e,by have:=(H.tight k e).2;omega⟩
 have B:Pool w p d S (grow T w w') P:=H.pool.mono (λk _ h=>h) (λk e h=>h.1.elim id λh=>by omega) λk h=>f k (u k h)
 exact⟨H.U8.keep λk e E=>t.block k e λh=>h0 k h E,B.other t (λk e=>f k (hT k e)) h1,λk e=>f k (H.sub k e),H.apart,λk e=>⟨e.1.elim (λh=>(H.tight k h).1) λh=>by omega,e.2⟩⟩
theorem qme (H:Qi b w d p S0 S T D P)(G:1<b)(y:Tab w)(u:P.tidy)(a:Int)(N:Nd)(A:Option Addr)(n c:Nat)(B:Option Addr)(m f:Nat)(E:Zl w A n c N.items)(F:Zm w B m f N.kids)(hn:n<=1000)(hm:m<=1000) :
  Calls Tryz.prog 145 #[.pointer (some ⟨p,0,none⟩),.int .i64 a,.agg #[.int .i64 N.lvl,.slice A n c,.slice B m f]] w λe w'=>e=.returned (.int .i64 (P.Gw a N))/\Qi b w' d p S0 S T D (P.Vq a N)/\Turn S w w'/\Tab w':=by
 refine (qma H.U8 H.pool u.kind u.laid (λk I=>(H.tight k I).2) (Below.refl _ _) a N A n c B m f E F hn hm y).mono ?_;rintro e w' ⟨rfl,R,X⟩;exact⟨rfl,H.step R X,X,H.tab G y X⟩
end
structure Bf (b:Nat)(w0 w:World)(d p:Nat)(S0 S T T':Nat->Prop)(D:DM)(P:Pl):Prop where
 sys:Qi b w d p S0 S T' D P
 sub:∀k,T k->T' k
 turn:Turn S w0 w
 tab:Tab w
 tidy:P.tidy
 base:1<b
 low:∀k,S0 k\/S k->k<w0.heap.size
 Qap:∀k,S0 k\/S k->T k
section
variable {b:Nat}{w0 w w':World}{d p:Nat}{S0 S T T' S':Nat->Prop}{D:DM}{P P':Pl}
theorem Bf.own (h:Bf b w0 w d p S0 S T T' D P)(t:Turn S' w w')(hS:∀k,S' k->T' k/\w0.1.size<=k):Bf b w0 w' d p S0 S T (grow T' w w') D P:=by
 have u:=t.size;exact⟨h.sys.grown t (λk e=>(hS k e).1) (λk e h0=>by have:=h.low k (.inl h0);have:=(hS k e).2;omega) (λk e h0=>by have:=h.low k (.inr h0);have:=(hS k e).2;omega),
  λk e=>⟨.inl (h.sub k e),by have:=(h.sys.tight k (h.sub k e)).2;omega⟩,h.turn.trans t λk e=>.inr (hS k e).2,h.tab.turned t λf=>by have:=(h.sys.tight _ (hS _ f).1).1;have:=h.base;omega,h.tidy,h.base,h.low,h.Qap⟩
theorem Bf.below (h:Bf b w0 w d p S0 S T T' D P)(hb:Below w.1.size w w'):Bf b w0 w' d p S0 S T (grow T' w w') D P:=h.own (Qv (S:=λ_=>False) hb) λ_ h=>h.elim
theorem Bf.mem (h:Bf b w0 w d p S0 S T T' D P){k:Nat}(hk:T' k)(hz:w.1.size<=w'.1.size):grow T' w w' k:=⟨.inl hk,by have:=(h.sys.tight k hk).2;omega⟩
theorem qtj {k:Nat}(h1:w.1.size<=k)(h2:k<w'.1.size):grow T' w w' k:=⟨.inr h1,h2⟩
theorem Bf.step (h:Bf b w0 w d p S0 S T T' D P)(H:Qi b w' d p S0 S T' D P')(X:Turn S w w')(ht:Tab w')(hP:P'.tidy):Bf b w0 w' d p S0 S T T' D P':=⟨H,h.sub,h.turn.then X,ht,hP,h.base,h.low,h.Qap⟩
theorem Bf.start (H:Qi b w0 d p S0 S T D P)(hb:1<b)(ht:Tab w0)(hP:P.tidy):Bf b w0 w0 d p S0 S T T D P:=⟨H,λ_ h=>h,Turn.refl _ _,ht,hP,hb,λk e=>(H.tight k (e.elim (H.sub k) (H.Cj k))).2,λk e=>e.elim (H.sub k) (H.Cj k)⟩
theorem Bf.done (h:Bf b w0 w d p S0 S T T' D P):Qi b w d p S0 S T D P:=h.sys.less h.sub (λk e=>h.Qap k (.inl e)) λk e=>h.Qap k (.inr e)
theorem Bf.not (h:Bf b w0 w d p S0 S T T' D P){k:Nat}(hk:w0.1.size<=k):¬S k:=λe=>by have:=h.low k (.inr e);omega
end
section
variable {Q:World->Prop}{w w':World}{X:Option Addr}{k kc:Nat}{Ns:List Nd}
theorem q5o {s:Nat}{A:Option Addr}{n c:Nat}{xs:List (List Value)}(h:Jf w s A n c xs){S:Nat->Prop}(T:Turn S w w')(f:∀k,q01 A=some k->¬S k):Jf w' s A n c xs:=h.keep T.size λg o e u=>T.block g u (f g (by rw[e];rfl))
theorem Ac.turned (h:Ac Q w X k kc Ns){S:Nat->Prop}(T:Turn S w w')(hA:∀k,q01 X=some k->¬S k):Ac Q w' X k kc Ns:=by
 obtain⟨e,h1,h2⟩:=h;exact⟨e,q5o h1 T hA,h2⟩
theorem Ac.tail {N:Nd}{g o:Nat}(h:Ac Q w (some ⟨g,o,none⟩) k kc (N::Ns)):∃y,(if kc=1 then (some ⟨g,o,none⟩:Option Addr) else Option.map (λx:Addr=>x.add 3) (some ⟨g,o,none⟩))=some ⟨g,y,none⟩/\Ac Q w (some ⟨g,y,none⟩) (k-1) (kc-1) Ns/\1<=k/\1<=kc:=by
 have E:=h.len;rw[List.length_cons] at E;obtain⟨f,h1,h2,B⟩:=h;have hd:=h1.drop (k:=1) (by omega);have G:=h1.cap;refine⟨if kc=1 then o else o+3,by split<;>rfl,⟨f.drop 1,?_,by rw[List.length_drop,h2,List.length_cons];omega,λj r x u F=>B (j+1) r x (by rw[List.getElem?_drop] at u;rw[show j+1=1+j by omega];exact u) (by rw[List.getElem?_cons_succ];exact F)⟩,by omega,by omega⟩;by_cases e:kc=1
 ·rw[if_pos e] at hd ⊢;exact hd
 ·rw[if_neg e] at hd ⊢;exact hd
theorem Vj.turned {ss:List Qu}(h:Vj Q w X k kc ss){S:Nat->Prop}(T:Turn S w w')(hA:∀k,q01 X=some k->¬S k):Vj Q w' X k kc ss:=by
 obtain⟨e,h1,h2⟩:=h;exact⟨e,q5o h1 T hA,h2⟩
end
theorem q6v {w:World}{base n c:Nat}{A:Option Addr}{ks:List Ql}{o:Oper}{a:Act}{K:Act->World->Prop}{G:Exit->Act->World->Prop}(F x:Operand)
  (J:o.op=.call { callee:=.builtin .append,args:=#[F,x],argTypes:=#[73,73] })
  (M:a.eval F=.slice A n c) (u:Vz w base A n c ks) {B:Option Addr} {d:Nat} (O:a.eval x=.slice B 1 d) {l:Ql} (U:Zm w B 1 d [l]) (hn:n<=1000) (e:base<=w.1.size)
  (h:∀f E w',Vz w' base f (n+1) E (ks++[l])->Turn (λk=>q01 A=some k) w w'->(q01 f=q01 A\/q01 f=some w.1.size)->K (a.put o.dst (.slice f (n+1) E)) w'):Oper.wp Tryz.prog o a w K G:=by
 obtain⟨f,E,w',y,h2,H,I⟩:=qk1 (ty:=o.type) u U (by omega) e;unfold Oper.wp execOp;simp only[J,resolve,invoke,builtin,Sem.run_bind,Sem.run_pure,Result.andThen_ok,List.map_toArray,List.map_cons,List.map_nil,M,O,y];exact h f E w' h2 H I
theorem qpq (w:World)(x:Ql):Zm (w.alloc (.cells x.vs.toArray 81)) (some ⟨w.1.size,0,none⟩) 1 1 [x]:=(q1q w 81 4 x.vs _ rfl rfl).Vs (by omega)
section
variable {s:Qu}{olds:List Qu}{P:Pl}{ks:List Ql}{R:Pl × List Nd × List Ql}{b:Nd}{rest:List Nd}
theorem qal (h:Gu (s::olds) P [] ks=some R):∃P',P.leave s=some P'/\Gu olds P' [] ks=some R:=by
 unfold Gu at h;split at h
 ·rename_i P' e;exact⟨P',e,h⟩
 ·cases h
theorem q48 (f:s.shared=true\/P.C.fresh s.addr=false)(h:Gu (s::olds) P (b::rest) ks=some R):∃P',P.leave s=some P'/\Gu olds P' (b::rest) ks=some R:=by
 unfold Gu at h;rw[if_pos f] at h;split at h
 ·rename_i P' e;exact⟨P',e,h⟩
 ·cases h
theorem qam (h1:s.shared=false)(h2:P.C.fresh s.addr=true)(h:Gu (s::olds) P (b::rest) ks=some R):P.Gw s.addr b=0/\Gu olds (P.Vq s.addr b) rest (ks++[⟨b.least,s.addr⟩])=some R:=by
 unfold Gu at h;rw[if_neg (by rw[h1,h2];simp)] at h;split at h
 ·rename_i e;exact⟨e,h⟩
 ·cases h
theorem qan {R:Pl × Option (List Ql)}(h:Xe (b::rest) P ks=some R):(P.Jq b=0/\Xe rest (P.Zn b) (ks++[⟨b.least,P.Xg b⟩])=some R)\/(P.Jq b=6/\R=(P.Zn b,none)):=by
 unfold Xe at h;split at h
 ·rename_i e;exact .inl ⟨e,h⟩
 ·split at h
  ·rename_i e;exact .inr ⟨e,(Option.some.inj h).symm⟩
  ·cases h
end
theorem qtk {e:List Qu}{j:Nat}(h:j<e.length):e.drop j=Y5 e j::e.drop (j+1):=by
 rw[List.drop_eq_getElem_cons h];unfold Y5;rw[List.getD_eq_getElem?_getD,List.getElem?_eq_getElem h];rfl
theorem qwj {f:List Nd}{j:Nat}(h:j<f.length):f.drop j=U4 f j::f.drop (j+1):=by
 have e:=q5e h;rw[List.getElem?_eq_getElem h] at e;rw[List.drop_eq_getElem_cons h,Option.some.inj e]
structure Rx (w0 w:World)(p:Nat)(V:List Value)(lv:Int)(K:Option Addr)(n c:Nat):Prop where
 t:RB w w0.heap.size [.pointer (some ⟨p,0,none⟩)]
 x:RB w (w0.heap.size+1) V
 r:NB w (w0.heap.size+2) 0 none 0 0 none 0 0
 k:NB w (w0.heap.size+3) lv none 0 0 K n c
theorem Rx.turned {w0 w w':World}{p:Nat}{V:List Value}{lv:Int}{K:Option Addr}{n c:Nat}(h:Rx w0 w p V lv K n c){S:Nat->Prop}(T:Turn S w w')(hS:∀k,S k->k<w0.1.size\/w0.1.size+4<=k):Rx w0 w' p V lv K n c:=
 ⟨h.t.turned T λe=>by have:=hS _ e;omega,h.x.turned T λe=>by have:=hS _ e;omega,h.r.turned T λe=>by have:=hS _ e;omega,h.k.turned T λe=>by have:=hS _ e;omega⟩
structure Ux (b:Nat)(w0 wp w:World)(d p:Nat)(S0 S T:Nat->Prop)(D:DM)(V:List Value)(lv:Int)(P:Pl)(X:Option Addr)(m mc:Nat)(rest:List Nd)(K:Option Addr)(n c:Nat)(ks:List Ql)(T':Nat->Prop):Prop where
 l:Bf b w0 w d p S0 S T T' D P
 o:Rx w0 w p V lv K n c
 row:Ac (Turn S w0) w X m mc rest
 kids:Vz w wp.heap.size K n c ks
 own:∀g,w0.heap.size<=g->g<wp.heap.size->T' g
 Nb:∀g,q01 X=some g->w0.heap.size+4<=g/\g<wp.heap.size
 Qar:∀g,q01 K=some g->T' g
 fit:∀N∈rest,N.fit
section
variable {b:Nat}{w0 wp w w':World}{d p:Nat}{S0 S T T':Nat->Prop}{D:DM}{V:List Value}{lv:Int}{P P':Pl}{X:Option Addr}{m mc:Nat}{rest:List Nd}{K:Option Addr}{n c:Nat}{ks:List Ql}
theorem Ux.next (h:Ux b w0 wp w d p S0 S T D V lv P X m mc rest K n c ks T'){T2:Nat->Prop}(L:Bf b w0 w' d p S0 S T T2 D P')(hT:∀k,T' k->T2 k)(X2:Turn S w w')(hz:w0.1.size+4<=wp.1.size):Ux b w0 wp w' d p S0 S T D V lv P' X m mc rest K n c ks T2:=by
 have f:=h.l.low;refine⟨L,h.o.turned X2 λk u=>.inl (f k (.inr u)),h.row.turned X2 λg e=>h.l.not (by have:=h.Nb g e;omega),h.kids.turned X2 λg e=>h.l.not (by have:=(h.kids.Qa g e).1;omega),λg h1 h2=>hT g (h.own g h1 h2),h.Nb,λg e=>hT g (h.Qar g e),h.fit⟩
theorem Ux.below (h:Ux b w0 wp w d p S0 S T D V lv P X m mc rest K n c ks T')(hb:Below w.1.size w w')(hz:w0.1.size+4<=wp.1.size):Ux b w0 wp w' d p S0 S T D V lv P X m mc rest K n c ks (grow T' w w'):=
 h.next (h.l.below hb) (λ_ e=>h.l.mem e hb.size) (Qv hb) hz
theorem Ux.more (h:Ux b w0 wp w d p S0 S T D V lv P X m mc rest K n c ks T')(hz:w0.1.size+4<=wp.1.size){w5 w6:World}(hb:Below w.1.size w w5){K6:Option Addr}{c6:Nat}{x:Ql}(k6:Vz w6 wp.1.size K6 (n+1) c6 (ks++[x]))(T6:Turn (λg=>q01 K=some g) w5 w6)(hK:q01 K6=q01 K\/q01 K6=some w5.1.size) :
  Ux b w0 wp (w6.setCell ⟨w0.1.size+3,2,none⟩ (.slice K6 (n+1) c6)) d p S0 S T D V lv P X m mc rest K6 (n+1) c6 (ks++[x]) (grow T' w (w6.setCell ⟨w0.1.size+3,2,none⟩ (.slice K6 (n+1) c6))):=by
 have E:Turn (λg=>g=w0.1.size+3) w6 (w6.setCell ⟨w0.1.size+3,2,none⟩ (.slice K6 (n+1) c6)):=Ez (a:=⟨w0.1.size+3,2,none⟩) _ rfl;have F:=h.kids.Qa;have B:=h.own;have Y:=h.o.t.lt;have O:=h.o.x.lt;have U:=h.o.r.lt;have W:=h.o.k.lt;have Z:=hb.size;have s6:=T6.size;have s7:=E.size;have G:Turn (λg=>g=w0.1.size+3\/q01 K=some g) w (w6.setCell ⟨w0.1.size+3,2,none⟩ (.slice K6 (n+1) c6)):=
  ((Qv (S:=λg=>g=w0.1.size+3\/q01 K=some g) hb).trans T6 λg f=>.inl (.inr f)).trans E λg f=>.inl (.inl f)
 have y:Turn (λg=>q01 K=some g) w w6:=(Qv (S:=λg=>q01 K=some g) hb).trans T6 λg f=>.inl f
 have I:=h.o.t.turned y (λu=>by have:=(F _ u).1;omega);have J:=h.o.x.turned y (λu=>by have:=(F _ u).1;omega);have H:=h.o.r.turned y (λu=>by have:=(F _ u).1;omega);have M:=h.o.k.turned y (λu=>by have:=(F _ u).1;omega);refine⟨h.l.own G λg f=>f.elim (λe=>⟨B g (by omega) (by omega),by omega⟩) λe=>⟨h.Qar g e,by have:=(F g e).1;omega⟩,
  ⟨I.keep (E.block _ I.lt (by show ¬w0.1.size=w0.1.size+3;omega)),J.keep (E.block _ J.lt (by show ¬w0.1.size+1=w0.1.size+3;omega)),H.keep (E.block _ H.lt (by show ¬w0.1.size+2=w0.1.size+3;omega)),M.set2 _ _ _⟩,
  h.row.turned G λg f u=>by
   have:=h.Nb g f;exact u.elim (λe=>by omega) λe=>by have:=(F g e).1;omega,
  k6.turned E λg f u=>by have u:g=w0.1.size+3:=u;have:=(k6.Qa g f).1;omega,
  λg h1 h2=>h.l.mem (B g h1 h2) (by omega),h.Nb,λg f=>?_,h.fit⟩
 rcases hK with e|e
 ·exact h.l.mem (h.Qar g (e▸f)) (by omega)
 ·rw[e] at f;obtain rfl:=Option.some.inj f;have:=(k6.Qa _ e).2;exact⟨.inr (by omega),by omega⟩
theorem Ux.tail {M:Nd}{g o:Nat}(h:Ux b w0 wp w d p S0 S T D V lv P (some ⟨g,o,none⟩) m mc (M::rest) K n c ks T'):∃f,(if mc=1 then some (⟨g,o,none⟩:Addr) else some ⟨g,o+3,none⟩)=some ⟨g,f,none⟩/\Ux b w0 wp w d p S0 S T D V lv P (some ⟨g,f,none⟩) (m-1) (mc-1) rest K n c ks T':=by
 obtain⟨f,e,y,_,_⟩:=h.row.tail;exact⟨f,e,h.l,h.o,y,h.kids,h.own,h.Nb,h.Qar,λN u=>h.fit N (List.mem_cons_of_mem _ u)⟩
end
