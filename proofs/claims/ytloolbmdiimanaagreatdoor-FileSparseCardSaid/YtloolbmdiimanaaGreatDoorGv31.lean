/- The code's edit: pieces -/
import Derived.Test.YtloolbmdiimanaaGreatDoorGv30
namespace Go.Proofs.YtloolbmdiimanaaGreatDoor
open Go Go.RowKit Go.Proofs Tryz
set_option maxHeartbeats 8000000
set_option maxRecDepth 100000
theorem TBn:Az prog 247 193 3 56 (.agg #[.int .i64 0,.slice none 0 0,.slice none 0 0]):=⟨underlying247,by kernel_rfl,rfl,by omega⟩
def U9 (Q:WD->Prop)(w:WD)(base:Nat)(A:OA)(n c:Nat)(Ns:List Nd):Prop:=
 ∃e,Qz w base 193 3 A n c e/\e.length=Ns.length/\∀(j:Nat) r N,e[j]?=some r->Ns[j]?=some N->∃A n c B m d,r=Vj N.lvl A n c B m d/\Je Q N A n c B m d
section
variable {Q:WD->Prop}{w w':WD}{base n c:Nat}{A:OA}{Ns:List Nd}
theorem qu5 (Q:WD->Prop)(w:WD)(base:Nat):U9 Q w base none 0 0 []:=⟨[],I5 _ _ _ _,rfl,λj r x e=>by simp at e⟩
theorem U9.below (h:U9 Q w base A n c Ns)(hb:Below w.1.size w w'):U9 Q w' base A n c Ns:=by
 obtain⟨e,h1,h2⟩:=h;exact⟨e,h1.below hb,h2⟩
theorem U9.bnl (h:U9 Q w base A n c Ns):G9 Q w A n c Ns:=by
 obtain⟨e,h1,h2⟩:=h;exact⟨e,h1.Um (by omega),h2⟩
theorem U9.Qc (h:U9 Q w base A n c Ns):∀k,q01 A=some k->base<=k/\k<w.1.size:=by
 obtain⟨e,h1,_⟩:=h;exact h1.Qc
theorem qeh (ty:TypeId)(y:U9 Q w base A n c Ns){B:OA}{d:Nat}{N:Nd}{J:OA}{W c1:Nat}{M:OA}{U O:Nat}
  (e:Jy w 3 B 1 d [Vj N.lvl J W c1 M U O]) (hq:Je Q N J W c1 M U O) (hn:n<=1000) (f:base<=w.1.size) :
  ∃H I w',(Builtin.append_ #[247,247] ty #[.slice A n c,.slice B 1 d]).run prog w=.ok (.slice H (n+1) I) w'/\U9 Q w' base H (n+1) I (Ns++[N])/\Below base w w':=by
 obtain⟨g,h1,h2,Y⟩:=y;obtain⟨H,I,w',E,G,Z⟩:=q8o (P:=prog) w TBn ty base A n c g h1 B 1 d _ e (by omega) (qsz _ _ _ _ _ _ _) (by omega) (by omega) f;refine⟨H,I,w',E,⟨_,G,by simp[h2],λj r' x e F=>?_⟩,Z⟩;by_cases hj:j<g.length
 ·rw[List.getElem?_append_left hj] at e;rw[List.getElem?_append_left (by omega)] at F;exact Y j r' x e F
 ·rw[List.getElem?_append_right (by omega)] at e F;have u:j-g.length=0:=by
   have:=(List.getElem?_eq_some_iff.1 e).1;simp at this;omega
  rw[u] at e;rw[<-h2,u] at F;obtain rfl:=OI e;obtain rfl:=OI F;exact⟨_,_,_,_,_,_,rfl,hq⟩
theorem qbx {o:Oper}{a:Act}{K:Act->WD->Prop}{M:Exit->Act->WD->Prop}(J x:Operand)
  (U:o.op=.call { callee:=.builtin .append,args:=#[J,x],argTypes:=#[247,247] })
  (Z:a.eval J=.slice A n c) (f:U9 Q w base A n c Ns) {B:OA} {d:Nat} (hx:a.eval x=.slice B 1 d) {N:Nd} {E:OA} {I c1:Nat} {F:OA} {H G:Nat}
  (Y:Jy w 3 B 1 d [Vj N.lvl E I c1 F H G]) (W:Je Q N E I c1 F H G) (hn:n<=1000) (e:base<=w.1.size)
  (h:∀u y w',U9 Q w' base u (n+1) y (Ns++[N])->Below base w w'->K (a.put o.dst (.slice u (n+1) y)) w') :
  Oper.wp prog o a w K M:=by
 obtain⟨u,y,w',g,h2,O⟩:=qeh (ty:=o.type) f Y W hn e;unfold Oper.wp execOp;simp only[U,resolve,invoke,builtin,Sem.run_bind,Sem.run_pure,Result.andThen_ok,List.map_toArray,BJ,List.map_nil,Z,hx,g];exact h u y w' h2 O
end
theorem qxc (w:WD)(l:Int)(A:OA)(n c:Nat)(B:OA)(m d:Nat):Jy (w.alloc (.cells #[.int .i64 l,.slice A n c,.slice B m d] 193)) 3 (some ⟨w.1.size,0,none⟩) 1 1 [Vj l A n c B m d]:=(q1n w 193 3 (Vj l A n c B m d) _ rfl rfl).Um (by omega)
theorem qik {N:Nd}{j:Nat}(h:j<parts N):(pieces N).take (j+1)=(pieces N).take j++[N.cut (N.size*j / parts N) (N.size*(j+1) / parts N)]:=by
 have e:(pieces N).length=parts N:=by unfold pieces;simp
 rw[List.take_succ_eq_append_getElem (by omega)];congr 2
 unfold pieces;simp
theorem qil {Q:WD->Prop}{N:Nd}{A B:OA}{n c m d:Nat}(hB:Je Q N A n c B m d)(a0:N.fit)(d6:N.size<=60)(w:WD) :
  Calls prog 169 #[Xx N.lvl A n c B m d] w λe w'=>∃X k kc,e=.returned (.slice X k kc)/\U9 Q w' w.1.size X k kc (pieces N)/\Below w.1.size w w':=by
 have G:=hB.size;have hn:=hB.hn;have hm:=hB.hm;obtain⟨z,hz⟩:∃z,N.size=z:=⟨_,rfl⟩;obtain⟨P,hP⟩:∃P,parts N=P:=⟨_,rfl⟩;obtain⟨f,H⟩:∃f,Qo N.lvl=f:=⟨_,rfl⟩;have c9:6<=f/\f<=12:=by rw[<-H];unfold Qo;split<;>omega
 have W:(z+f-1) / f=P:=by rw[<-hP,<-hz,<-H];rfl
 have b5:P<=100:=by rw[<-W];exact AZ (Nat.div_le_self _ _) (by omega)
 have U:NB (w.alloc (.cells #[.int .i64 N.lvl,.slice A n c,.slice B m d] 193)) w.1.size N.lvl A n c B m d:=NB.new w _ _ _ _ _ _ _ _;have b1:Below w.1.size w (w.alloc (.cells #[.int .i64 N.lvl,.slice A n c,.slice B m d] 193)):=Ql;have HL:=λu=>q35 N.lvl A n c B m d u
 have HS:=λu=>q21 N.lvl A n c B m d (by omega) (by omega) u
 rw[H] at HL;rw[<-G,hz] at HS;have c0:=U.c0;have c1:=U.c1;have c2:=U.c2;unfold Xx at HL HS ⊢;replace HL:=HI HL;replace HS:=HI HS;have d7:IntKind.i64.wrap ((z:Int)+(f:Int))=((z+f:Nat):Int):=by rw[show (z:Int)+(f:Int)=((z+f:Nat):Int) by omega];exact IntWalk.i64_in _ (by omega)
 have d8:IntKind.i64.wrap (((z+f:Nat):Int)-1)=((z+f-1:Nat):Int):=by rw[show ((z+f:Nat):Int)-1=((z+f-1:Nat):Int) by omega];exact IntWalk.i64_in _ (by omega)
 have hq:((z:Int)+(f:Int)-1) / (f:Int)=(P:Int):=by
  rw[<-W,show (z:Int)+(f:Int)-1=((z+f-1:Nat):Int) by omega];exact (Int.natCast_ediv _ _).symm
 have b9:((f:Int)==0)=false:=by simp;omega
 go_enter func169,ntmps169
 go_wp2_with fail
 generalize w.alloc (.cells #[.int .i64 N.lvl,.slice A n c,.slice B m d] 193)=w1 at U b1 c0 c1 c2 ⊢;refine (HL.out w1).mono ?_;rintro e w2 ⟨rfl,b2⟩;have N2:=U.below b2 U.lt;have c0:=N2.c0;have c1:=N2.c1;have c2:=N2.c2;go_wp2_with fail
 refine (HS.out w2).mono ?_;rintro e w3 ⟨rfl,b3⟩;have N3:=N2.below b3 N2.lt;have BB:=b1.trans ((b2.trans (b3.mono b2.size)).mono b1.size);have z1:=N3.lt;clear c0 c1 c2 U N2 b1 b2 b3;go_wp2_with fail
 simp only[hq];clear hq;go_loopw [6,21] (λl i wr=>∃(j:Nat) (X:OA) (kc:Nat),j<=P/\i=.int .i64 (j:Int)/\l=.slice X j kc/\U9 Q wr (w.1.size+1) X j kc ((pieces N).take j)/\NB wr w.1.size N.lvl A n c B m d/\Below w.1.size w wr) (λ_ i _=>P-(intOf i).toNat)
 case atStart=>exact⟨0,none,0,AW _,rfl,rfl,qu5 _ _ _,N3,BB⟩
 case round=>
  obtain⟨j,X,kc,hj,rfl,rfl,own,NN,hb⟩:=hrel;have zN:=NN.lt;have zb:=hb.size;have Z:w.1.size+1<=wr.1.size:=zN;by_cases a9:j<P
  ·have HT:=HI (qik (N:=N) (j:=j) (by rw[hP];exact a9));obtain⟨lo,F⟩:∃lo,z*j / P=lo:=⟨_,rfl⟩;obtain⟨hi,y⟩:∃hi,z*(j+1) / P=hi:=⟨_,rfl⟩;have a1:lo<=hi:=by rw[<-F,<-y];exact Nat.div_le_div_right (Nat.mul_le_mul_left _ (by omega))
   have d4:hi<=z:=by
    rw[<-y];exact AZ (Nat.div_le_div_right (Nat.mul_le_mul_left z (show j+1<=P by omega))) (by rw[Nat.mul_div_cancel _ (by omega)];exact AE _)
   have Y:=qas hB a0 (j:=hi) (by omega);obtain⟨A1,n1,c1,B1,m1,d1,e1,q1,l1⟩:=q7v hB a1 Y;have HC:=λu=>q3p N.lvl A n c B m d lo hi a1 Y ⟨hn.2.1,hn.2.2⟩ ⟨hm.2.1,hm.2.2⟩ u
   rw[e1] at HC;unfold Xx at HC;replace HC:=HI HC;have b0:z*j<=6000:=by have:=Nat.mul_le_mul (show z<=60 by omega) (show j<=100 by omega);omega
   have a3:z*(j+1)<=6060:=by have:=Nat.mul_le_mul (show z<=60 by omega) (show j+1<=101 by omega);omega
   have b7:((P:Int)==0)=false:=by simp;omega
   obtain⟨p1,I⟩:∃p1,z*j=p1:=⟨_,rfl⟩;obtain⟨p2,M⟩:∃p2,z*(j+1)=p2:=⟨_,rfl⟩;rw[I] at b0 F;rw[M] at a3 y;have v1:IntKind.i64.wrap ((z:Int)*(j:Int))=(p1:Int):=by rw[<-I,<-Int.natCast_mul];exact IntWalk.i64_in _ (by omega)
   have v2:IntKind.i64.wrap ((z:Int)*((j:Int)+1))=(p2:Int):=by rw[show (z:Int)*((j:Int)+1)=((z*(j+1):Nat):Int) by rw[Int.natCast_mul];rfl,M];exact IntWalk.i64_in _ (by omega)
   have v3:(p1:Int) / (P:Int)=(lo:Int):=by rw[<-F];exact (Int.natCast_ediv _ _).symm
   have v4:(p2:Int) / (P:Int)=(hi:Int):=by rw[<-y];exact (Int.natCast_ediv _ _).symm
   have a8:lo<=60:=by omega
   have a7:hi<=60:=by omega
   have v5:IntKind.i64.wrap (hi:Int)=(hi:Int):=IntWalk.i64_in _ (by omega);have v6:IntKind.i64.wrap (lo:Int)=(lo:Int):=IntWalk.i64_in _ (by omega);obtain⟨J,hJ⟩:∃J,j+1=J:=⟨_,rfl⟩;have e0:IntKind.i64.wrap ((j:Int)+1)=(J:Int):=by rw[<-hJ];exact IntWalk.i64_in _ (by omega)
   have e2:IntKind.i64.wrap ((z:Int)*(J:Int))=(p2:Int):=by rw[<-hJ];exact v2
   have e3:(p1:Int).tdiv (P:Int)=(lo:Int):=by rw[<-v3];exact Int.tdiv_eq_ediv_of_nonneg (by omega)
   have e4:(p2:Int).tdiv (P:Int)=(hi:Int):=by rw[<-v4];exact Int.tdiv_eq_ediv_of_nonneg (by omega)
   replace hJ:=HI hJ;have a4:¬(P:Int)=0:=by omega
   have b6:¬P=0:=by omega
   have d2:decide ((P:Int)=0)=false:=AH a4;have d0:z<=60:=by omega
   have a6:=HI (show (pieces N).take (j+1)=(pieces N).take j++[N.cut lo hi] by rw[HT.out,hP,hz,I,M,F,y]);have a2:=HI (λ(u:WD)=>(l1.symm▸qxc u N.lvl A1 n1 c1 B1 m1 d1:Jy (u.alloc (.cells #[.int .i64 N.lvl,.slice A1 n1 c1,.slice B1 m1 d1] 193)) 3 (some ⟨u.1.size,0,none⟩) 1 1 [Vj (N.cut lo hi).lvl A1 n1 c1 B1 m1 d1]));clear e1 Y hz hP G I M F y HT H W l1;have cells:∀u,Below (w.1.size+1) wr u->u.cell? ⟨w.1.size,0,none⟩=some (.int .i64 N.lvl)/\u.cell? ⟨w.1.size,1,none⟩=some (.slice A n c)/\u.cell? ⟨w.1.size,2,none⟩=some (.slice B m d):=λu hu=>
    have N':=NN.below hu (by omega);⟨N'.c0,N'.c1,N'.c2⟩
   have g:Below wr.1.size wr wr.drew:=(AI _ _).drew;go_wp2_with fail
   go_region_held3 (λu=>u.cell? ⟨w.1.size,0,none⟩=some (.int .i64 N.lvl)/\u.cell? ⟨w.1.size,1,none⟩=some (.slice A n c)/\u.cell? ⟨w.1.size,2,none⟩=some (.slice B m d))
    (first|(with_reducible assumption)|(with_reducible exact cells _ (g.mono Z))|(with_reducible exact cells _ ((g.alloc g.size _).mono Z))|(with_reducible exact a5.out))
    (first
     |(go_at_call 144;(with_reducible refine (HS.out _).mono ?_);rintro e wX ⟨rfl,hX⟩;replace g:=g.trans (hX.mono g.size);clear hX)
     |(go_at_call 143;(with_reducible refine (HC.out _).mono ?_);rintro e wX ⟨rfl,hX⟩;replace g:=g.trans (hX.mono g.size);clear hX)
     |(rw[AA (by rfl)];refine qbx (Q:=Q) (base:=w.1.size+1) (.tmp 24) (.tmp 40) (by rfl) (by rfl) (own.below (g.alloc g.size (.cells #[.int .i64 N.lvl,.slice A1 n1 c1,.slice B1 m1 d1] 193))) (by rfl) (a2.out _) q1 (by omega) (by have:=(g.alloc g.size (.cells #[.int .i64 N.lvl,.slice A1 n1 c1,.slice B1 m1 d1] 193)).size;omega) ?_;intro X' b4 w6 O E;have bA:=g.alloc g.size (.cells #[.int .i64 N.lvl,.slice A1 n1 c1,.slice B1 m1 d1] 193);have E:=(bA.mono Z).trans E;have a5:=HI (cells w6 E))
     |fail)
   all_goals (
    go_wp2_with fail
    rw[<-a6.out] at O;exact⟨⟨j+1,X',b4,by omega,by rw[<-hJ.out],rfl,O,NN.below E (by omega),hb.trans (E.mono (by omega))⟩,by simp[intOf];have:=hJ.out;omega⟩)
  ·have d5:P<=j:=by omega
   have d3:¬(j:Int)<(P:Int):=by omega
   have b8:(pieces N).length=P:=by rw[<-hP];unfold pieces;simp
   rw[AN (by omega)] at own;go_wp2;go_ret;exact⟨X,j,kc,rfl,⟨own.choose,own.choose_spec.1.less (by omega),own.choose_spec.2⟩,hb⟩
structure Pl.tidy (P:Pl):Prop where
 kind:∀a b,P.L a=some b->b.kindOk
 laid:∀a:Nat,P.C.fresh (a:Int)=true->∃b,P.L a=some b
section
variable {P:Pl}
theorem qcv {C:Ct}{c:Nat}{x:Int}(h0:C.get (c:Int)≠0){a:Nat}(h:(C.put c x).fresh (a:Int)=true):C.fresh (a:Int)=true:=by
 have f:a<C.n:=by
  obtain⟨n,e,hn⟩:=Uh (q2s h);rw[C.Zg] at hn;omega
 unfold Ct.fresh at h ⊢;rw[P8 C a f] at h;by_cases e:a=c
 ·subst e;rw[AA rfl] at h;rw[AB h0];split at h
  ·cases h
  ·exact h
 ·rw[AB e] at h;exact h
theorem Pl.tidy.Qp (h:P.tidy)(a:Int):Pl.tidy ⟨P.S,P.C.Qp a,P.L⟩:=by
 refine⟨h.kind,λc e=>h.laid c ?_⟩;have e:(P.C.Qp a).fresh (c:Int)=true:=e;unfold Ct.Qp at e;split at e
 ·exact e
 ·rename_i h0;obtain⟨n,rfl,hn⟩:=Uh h0;rw[AJ] at e;exact qcv h0 e
theorem Pl.tidy.ref (h:P.tidy)(a:Int):Pl.tidy ⟨P.S,P.C.ref a,P.L⟩:=by
 refine⟨h.kind,λc f=>h.laid c ?_⟩;have f:(P.C.ref a).fresh (c:Int)=true:=f;unfold Ct.ref at f;split at f
 ·rename_i g;have h0:P.C.get a≠0:=λe=>by unfold Ct.Y0 at g;rw[AA e] at g;cases g
  obtain⟨n,rfl,hn⟩:=Uh h0;rw[AJ] at f;exact qcv h0 f
 ·exact f
theorem Pl.tidy.set (h:P.tidy)(a:Int)(N:Nd):(P.Kz a N).tidy:=by
 unfold Pl.Kz;split
 ·refine⟨λc x f=>?_,λc g=>?_⟩
  ·have f:upd P.L a.toNat (some (.node N)) c=some x:=f;by_cases e:c=a.toNat
   ·subst e;rw[Aj] at f;obtain rfl:=OI f;exact trivial
   ·rw[Af _ _ e] at f;exact h.kind c x f
  ·show ∃b,upd P.L a.toNat (some (.node N)) c=some b;by_cases e:c=a.toNat
   ·subst e;exact⟨_,Aj _ _ _⟩
   ·rw[Af _ _ e];exact h.laid c g
 ·exact h
theorem Pl.tidy.put (h:P.tidy)(N:Nd):(P.Jg N).tidy:=by
 unfold Pl.Jg;split
 ·cases g:P.C.pick with
  |none=>rw[q6w g];exact h
  |some a=>
   have F:=(Ct.Ju g).2.2.1;have E:=(Ct.Ju g).1;refine⟨λc x u=>?_,λc f=>?_⟩
   ·rw[qbv g] at u;split at u
    ·obtain rfl:=OI u;exact trivial
    ·exact h.kind c x u
   ·rw[qbv g];by_cases e:c=a
    ·exact⟨_,AA e⟩
    ·rw[AB e];refine h.laid c ?_;rw[q2k g] at f;have f:P.C.alloc.fresh (c:Int)=true:=f;rw[(Ct.Jf g).2.2] at f;have y:c<P.C.n:=by
      obtain⟨n,B,h2⟩:=Uh (q2s f);rw[P.C.Zg] at h2;omega
     unfold Ct.fresh at f ⊢;rw[P8 P.C c y,AB e] at f;exact f
 ·exact h
theorem Pl.tidy.leave {P':Pl}{s:Qr}(h:P.tidy)(hl:P.leave s=some P'):P'.tidy:=by
 unfold Pl.leave at hl;split at hl
 ·obtain rfl:=OI hl;exact h
 ·split at hl
  ·obtain rfl:=OI hl;exact h.Qp _
  ·cases hl
theorem qgf:∀(f:LI) {P P':Pl},P.tidy->Vk f P=some P'->P'.tidy
 |[],P,P',h,e=>by obtain rfl:=OI e;exact h
 |a::r,P,P',h,e=>by
  have e:(if P.C.Y0 a=0 then Vk r ⟨P.S,P.C.ref a,P.L⟩ else none)=some P':=e;split at e
  ·exact qgf r (h.ref a) e
  ·cases e
theorem qat:∀(f:LI) {P P':Pl},P.tidy->Rh f P=some P'->P'.tidy
 |[],P,P',h,e=>by obtain rfl:=OI e;exact h
 |a::r,P,P',h,e=>by
  have e:(if P.C.Jp a=0 then Rh r ⟨P.S,P.C.Qp a,P.L⟩ else none)=some P':=e;split at e
  ·exact qat r (h.Qp a) e
  ·cases e
theorem Pl.tidy.Qw {P':Pl}{s:Qr}{i j:Nat}(h:P.tidy)(hl:P.Qw s i j=some P'):P'.tidy:=by
 unfold Pl.Qw at hl;split at hl
 ·exact qgf _ h hl
 ·split at hl
  ·obtain rfl:=OI hl;exact h
  ·exact qat _ h hl
end
section
variable {b:Nat}{w w':WD}{d p:Nat}{S0 S T S':NP}{D:DM}{P P':Pl}
theorem Qh.grown (H:Qh b w d p S0 S T D P)(t:Turn S' w w')(hT:∀k,S' k->T k)(h0:∀k,S' k->¬S0 k)(h1:∀k,S' k->¬S k):Qh b w' d p S0 S (grow T w w') D P:=by
 have u:=H.base;have g:=H.Dw;have E:=t.size;have f:∀k,T k->grow T w w' k:=λk e=>⟨.inl e,by have:=(H.tight k e).2;omega⟩
 have y:Pool w p d S (grow T w w') P:=H.pool.mono (λk _ h=>h) (λk e h=>h.1.elim id λh=>by omega) λk h=>f k (g k h)
 exact⟨H.Bc.keep λk e B=>t.block k e λh=>h0 k h B,y.other t (λk e=>f k (hT k e)) h1,λk e=>f k (H.sub k e),H.apart,λk e=>⟨e.1.elim (λh=>(H.tight k h).1) λh=>by omega,e.2⟩⟩
theorem qmr (H:Qh b w d p S0 S T D P)(F:1<b)(u:Tab w)(g:P.tidy)(a:Int)(N:Nd)(A:OA)(n c:Nat)(B:OA)(m f:Nat)(y:Ji w A n c N.items)(E:Zn w B m f N.kids)(hn:n<=1000)(hm:m<=1000) :
  Calls prog 171 #[.pointer (some ⟨p,0,none⟩),.int .i64 a,.agg #[.int .i64 N.lvl,.slice A n c,.slice B m f]] w λe w'=>e=.returned (.int .i64 (P.Gm a N))/\Qh b w' d p S0 S T D (P.Kz a N)/\Turn S w w'/\Tab w':=by
 refine (qmm H.Bc H.pool g.kind g.laid (λk G=>(H.tight k G).2) (AI _ _) a N A n c B m f y E hn hm u).mono ?_;rintro e w' ⟨rfl,R,X⟩;exact⟨rfl,H.step R X,X,H.tab F u X⟩
end
structure Aw (b:Nat)(w0 w:WD)(d p:Nat)(S0 S T T':NP)(D:DM)(P:Pl):Prop where
 sys:Qh b w d p S0 S T' D P
 sub:∀k,T k->T' k
 turn:Turn S w0 w
 tab:Tab w
 tidy:P.tidy
 base:1<b
 low:∀k,S0 k\/S k->k<w0.heap.size
 Qam:∀k,S0 k\/S k->T k
section
variable {b:Nat}{w0 w w':WD}{d p:Nat}{S0 S T T' S':NP}{D:DM}{P P':Pl}
theorem Aw.own (h:Aw b w0 w d p S0 S T T' D P)(t:Turn S' w w')(hS:∀k,S' k->T' k/\w0.1.size<=k):Aw b w0 w' d p S0 S T (grow T' w w') D P:=by
 have g:=t.size;exact⟨h.sys.grown t (λk e=>(hS k e).1) (λk e h0=>by have:=h.low k (.inl h0);have:=(hS k e).2;omega) (λk e h0=>by have:=h.low k (.inr h0);have:=(hS k e).2;omega),
  λk e=>⟨.inl (h.sub k e),by have:=(h.sys.tight k (h.sub k e)).2;omega⟩,h.turn.trans t λk e=>.inr (hS k e).2,h.tab.turned t λf=>by have:=(h.sys.tight _ (hS _ f).1).1;have:=h.base;omega,h.tidy,h.base,h.low,h.Qam⟩
theorem Aw.below (h:Aw b w0 w d p S0 S T T' D P)(hb:Below w.1.size w w'):Aw b w0 w' d p S0 S T (grow T' w w') D P:=h.own (Zb (S:=λ_=>False) hb) λ_ h=>h.elim
theorem Aw.mem (h:Aw b w0 w d p S0 S T T' D P){k:Nat}(hk:T' k)(hz:w.1.size<=w'.1.size):grow T' w w' k:=⟨.inl hk,by have:=(h.sys.tight k hk).2;omega⟩
theorem qu6 {k:Nat}(h1:w.1.size<=k)(h2:k<w'.1.size):grow T' w w' k:=⟨.inr h1,h2⟩
theorem Aw.step (h:Aw b w0 w d p S0 S T T' D P)(H:Qh b w' d p S0 S T' D P')(X:Turn S w w')(ht:Tab w')(hP:P'.tidy):Aw b w0 w' d p S0 S T T' D P':=⟨H,h.sub,h.turn.then X,ht,hP,h.base,h.low,h.Qam⟩
theorem Aw.start (H:Qh b w0 d p S0 S T D P)(hb:1<b)(ht:Tab w0)(hP:P.tidy):Aw b w0 w0 d p S0 S T T D P:=⟨H,λ_ h=>h,Turn.refl _ _,ht,hP,hb,λk e=>(H.tight k (e.elim (H.sub k) (H.Dw k))).2,λk e=>e.elim (H.sub k) (H.Dw k)⟩
theorem Aw.done (h:Aw b w0 w d p S0 S T T' D P):Qh b w d p S0 S T D P:=h.sys.less h.sub (λk e=>h.Qam k (.inl e)) λk e=>h.Qam k (.inr e)
theorem Aw.not (h:Aw b w0 w d p S0 S T T' D P){k:Nat}(hk:w0.1.size<=k):¬S k:=λe=>by have:=h.low k (.inr e);omega
end
section
variable {Q:WD->Prop}{w w':WD}{X:OA}{k kc:Nat}{Ns:List Nd}
theorem q5j {s:Nat}{A:OA}{n c:Nat}{xs:List (LV)}(h:Jy w s A n c xs){S:NP}(T:Turn S w w')(f:∀k,q01 A=some k->¬S k):Jy w' s A n c xs:=h.keep T.size λg o e u=>T.block g u (f g (by rw[e];rfl))
theorem G9.turned (h:G9 Q w X k kc Ns){S:NP}(T:Turn S w w')(hA:∀k,q01 X=some k->¬S k):G9 Q w' X k kc Ns:=by
 obtain⟨e,h1,h2⟩:=h;exact⟨e,q5j h1 T hA,h2⟩
theorem G9.tail {N:Nd}{g o:Nat}(h:G9 Q w (some ⟨g,o,none⟩) k kc (N::Ns)):∃y,(if kc=1 then (some ⟨g,o,none⟩:OA) else Option.map (λx:Addr=>x.add 3) (some ⟨g,o,none⟩))=some ⟨g,y,none⟩/\G9 Q w (some ⟨g,y,none⟩) (k-1) (kc-1) Ns/\1<=k/\1<=kc:=by
 have E:=h.len;rw[AX] at E;obtain⟨f,h1,h2,B⟩:=h;have hd:=h1.drop (k:=1) (by omega);have G:=h1.cap;refine⟨if kc=1 then o else o+3,by split<;>rfl,⟨f.drop 1,?_,by rw[AS,h2,AX];omega,λj r x u F=>B (j+1) r x (by rw[List.getElem?_drop] at u;rw[show j+1=1+j by omega];exact u) (by rw[List.getElem?_cons_succ];exact F)⟩,by omega,by omega⟩;by_cases e:kc=1
 ·rw[AA e] at hd ⊢;exact hd
 ·rw[AB e] at hd ⊢;exact hd
theorem Vo.turned {ss:List Qr}(h:Vo Q w X k kc ss){S:NP}(T:Turn S w w')(hA:∀k,q01 X=some k->¬S k):Vo Q w' X k kc ss:=by
 obtain⟨e,h1,h2⟩:=h;exact⟨e,q5j h1 T hA,h2⟩
end
theorem q70 {w:WD}{base n c:Nat}{A:OA}{ks:List Qk}{o:Oper}{a:Act}{K:Act->WD->Prop}{F:Exit->Act->WD->Prop}(E x:Operand)
  (I:o.op=.call { callee:=.builtin .append,args:=#[E,x],argTypes:=#[106,106] })
  (J:a.eval E=.slice A n c) (g:Ud w base A n c ks) {B:OA} {d:Nat} (M:a.eval x=.slice B 1 d) {l:Qk} (O:Zn w B 1 d [l]) (hn:n<=1000) (e:base<=w.1.size)
  (h:∀f y w',Ud w' base f (n+1) y (ks++[l])->Turn (λk=>q01 A=some k) w w'->(q01 f=q01 A\/q01 f=some w.1.size)->K (a.put o.dst (.slice f (n+1) y)) w'):Oper.wp prog o a w K F:=by
 obtain⟨f,y,w',u,h2,G,H⟩:=qkb (ty:=o.type) g O (by omega) e;unfold Oper.wp execOp;simp only[I,resolve,invoke,builtin,Sem.run_bind,Sem.run_pure,Result.andThen_ok,List.map_toArray,BJ,List.map_nil,J,M,u];exact h f y w' h2 G H
theorem qqa (w:WD)(x:Qk):Zn (w.alloc (.cells x.vs.toArray 159)) (some ⟨w.1.size,0,none⟩) 1 1 [x]:=(q1n w 159 4 x.vs _ rfl rfl).Um (by omega)
section
variable {s:Qr}{olds:List Qr}{P:Pl}{ks:List Qk}{R:Pl × List Nd × List Qk}{b:Nd}{rest:List Nd}
theorem qau (h:Ut (s::olds) P [] ks=some R):∃P',P.leave s=some P'/\Ut olds P' [] ks=some R:=by
 unfold Ut at h;split at h
 ·rename_i P' e;exact⟨P',e,h⟩
 ·cases h
theorem q48 (f:s.shared=true\/P.C.fresh s.addr=false)(h:Ut (s::olds) P (b::rest) ks=some R):∃P',P.leave s=some P'/\Ut olds P' (b::rest) ks=some R:=by
 unfold Ut at h;rw[AA f] at h;split at h
 ·rename_i P' e;exact⟨P',e,h⟩
 ·cases h
theorem qav (h1:s.shared=false)(h2:P.C.fresh s.addr=true)(h:Ut (s::olds) P (b::rest) ks=some R):P.Gm s.addr b=0/\Ut olds (P.Kz s.addr b) rest (ks++[⟨b.least,s.addr⟩])=some R:=by
 unfold Ut at h;rw[AB (by rw[h1,h2];simp)] at h;split at h
 ·rename_i e;exact⟨e,h⟩
 ·cases h
theorem qaw {R:Pl × Option (List Qk)}(h:Jl (b::rest) P ks=some R):(P.Jm b=0/\Jl rest (P.Jg b) (ks++[⟨b.least,P.Yz b⟩])=some R)\/(P.Jm b=6/\R=(P.Jg b,none)):=by
 unfold Jl at h;split at h
 ·rename_i e;exact .inl ⟨e,h⟩
 ·split at h
  ·rename_i e;exact .inr ⟨e,(OI h).symm⟩
  ·cases h
end
theorem qu7 {e:List Qr}{j:Nat}(h:j<e.length):e.drop j=Y1 e j::e.drop (j+1):=by
 rw[List.drop_eq_getElem_cons h];unfold Y1;rw[AG,AC h];rfl
theorem qxd {f:List Nd}{j:Nat}(h:j<f.length):f.drop j=U7 f j::f.drop (j+1):=by
 have e:=q55 h;rw[AC h] at e;rw[List.drop_eq_getElem_cons h,OI e]
structure Rq (w0 w:WD)(p:Nat)(V:LV)(lv:Int)(K:OA)(n c:Nat):Prop where
 t:RB w w0.heap.size [.pointer (some ⟨p,0,none⟩)]
 x:RB w (w0.heap.size+1) V
 r:NB w (w0.heap.size+2) 0 none 0 0 none 0 0
 k:NB w (w0.heap.size+3) lv none 0 0 K n c
theorem Rq.turned {w0 w w':WD}{p:Nat}{V:LV}{lv:Int}{K:OA}{n c:Nat}(h:Rq w0 w p V lv K n c){S:NP}(T:Turn S w w')(hS:∀k,S k->k<w0.1.size\/w0.1.size+4<=k):Rq w0 w' p V lv K n c:=
 ⟨h.t.turned T λe=>by have:=hS _ e;omega,h.x.turned T λe=>by have:=hS _ e;omega,h.r.turned T λe=>by have:=hS _ e;omega,h.k.turned T λe=>by have:=hS _ e;omega⟩
structure U1 (b:Nat)(w0 wp w:WD)(d p:Nat)(S0 S T:NP)(D:DM)(V:LV)(lv:Int)(P:Pl)(X:OA)(m mc:Nat)(rest:List Nd)(K:OA)(n c:Nat)(ks:List Qk)(T':NP):Prop where
 l:Aw b w0 w d p S0 S T T' D P
 o:Rq w0 w p V lv K n c
 row:G9 (Turn S w0) w X m mc rest
 kids:Ud w wp.heap.size K n c ks
 own:∀g,w0.heap.size<=g->g<wp.heap.size->T' g
 Na:∀g,q01 X=some g->w0.heap.size+4<=g/\g<wp.heap.size
 Qao:∀g,q01 K=some g->T' g
 fit:∀N∈rest,N.fit
section
variable {b:Nat}{w0 wp w w':WD}{d p:Nat}{S0 S T T':NP}{D:DM}{V:LV}{lv:Int}{P P':Pl}{X:OA}{m mc:Nat}{rest:List Nd}{K:OA}{n c:Nat}{ks:List Qk}
theorem U1.next (h:U1 b w0 wp w d p S0 S T D V lv P X m mc rest K n c ks T'){T2:NP}(L:Aw b w0 w' d p S0 S T T2 D P')(hT:∀k,T' k->T2 k)(X2:Turn S w w')(hz:w0.1.size+4<=wp.1.size):U1 b w0 wp w' d p S0 S T D V lv P' X m mc rest K n c ks T2:=by
 have f:=h.l.low;refine⟨L,h.o.turned X2 λk u=>.inl (f k (.inr u)),h.row.turned X2 λg e=>h.l.not (by have:=h.Na g e;omega),h.kids.turned X2 λg e=>h.l.not (by have:=(h.kids.Qc g e).1;omega),λg h1 h2=>hT g (h.own g h1 h2),h.Na,λg e=>hT g (h.Qao g e),h.fit⟩
theorem U1.below (h:U1 b w0 wp w d p S0 S T D V lv P X m mc rest K n c ks T')(hb:Below w.1.size w w')(hz:w0.1.size+4<=wp.1.size):U1 b w0 wp w' d p S0 S T D V lv P X m mc rest K n c ks (grow T' w w'):=
 h.next (h.l.below hb) (λ_ e=>h.l.mem e hb.size) (Zb hb) hz
theorem U1.more (h:U1 b w0 wp w d p S0 S T D V lv P X m mc rest K n c ks T')(hz:w0.1.size+4<=wp.1.size){w5 w6:WD}(hb:Below w.1.size w w5){K6:OA}{c6:Nat}{x:Qk}(k6:Ud w6 wp.1.size K6 (n+1) c6 (ks++[x]))(T6:Turn (λg=>q01 K=some g) w5 w6)(hK:q01 K6=q01 K\/q01 K6=some w5.1.size) :
  U1 b w0 wp (w6.setCell ⟨w0.1.size+3,2,none⟩ (.slice K6 (n+1) c6)) d p S0 S T D V lv P X m mc rest K6 (n+1) c6 (ks++[x]) (grow T' w (w6.setCell ⟨w0.1.size+3,2,none⟩ (.slice K6 (n+1) c6))):=by
 have E:Turn (λg=>g=w0.1.size+3) w6 (w6.setCell ⟨w0.1.size+3,2,none⟩ (.slice K6 (n+1) c6)):=Cc (a:=⟨w0.1.size+3,2,none⟩) _ rfl;have F:=h.kids.Qc;have B:=h.own;have Y:=h.o.t.lt;have O:=h.o.x.lt;have U:=h.o.r.lt;have W:=h.o.k.lt;have Z:=hb.size;have s6:=T6.size;have s7:=E.size;have G:Turn (λg=>g=w0.1.size+3\/q01 K=some g) w (w6.setCell ⟨w0.1.size+3,2,none⟩ (.slice K6 (n+1) c6)):=
  ((Zb (S:=λg=>g=w0.1.size+3\/q01 K=some g) hb).trans T6 λg f=>.inl (.inr f)).trans E λg f=>.inl (.inl f)
 have y:Turn (λg=>q01 K=some g) w w6:=(Zb (S:=λg=>q01 K=some g) hb).trans T6 λg f=>.inl f
 have I:=h.o.t.turned y (λu=>by have:=(F _ u).1;omega);have J:=h.o.x.turned y (λu=>by have:=(F _ u).1;omega);have H:=h.o.r.turned y (λu=>by have:=(F _ u).1;omega);have M:=h.o.k.turned y (λu=>by have:=(F _ u).1;omega);refine⟨h.l.own G λg f=>f.elim (λe=>⟨B g (by omega) (by omega),by omega⟩) λe=>⟨h.Qao g e,by have:=(F g e).1;omega⟩,
  ⟨I.keep (E.block _ I.lt (by show ¬w0.1.size=w0.1.size+3;omega)),J.keep (E.block _ J.lt (by show ¬w0.1.size+1=w0.1.size+3;omega)),H.keep (E.block _ H.lt (by show ¬w0.1.size+2=w0.1.size+3;omega)),M.set2 _ _ _⟩,
  h.row.turned G λg f u=>by
   have:=h.Na g f;exact u.elim (λe=>by omega) λe=>by have:=(F g e).1;omega,
  k6.turned E λg f u=>by have u:g=w0.1.size+3:=u;have:=(k6.Qc g f).1;omega,
  λg h1 h2=>h.l.mem (B g h1 h2) (by omega),h.Na,λg f=>?_,h.fit⟩
 rcases hK with e|e
 ·exact h.l.mem (h.Qao g (e▸f)) (by omega)
 ·rw[e] at f;obtain rfl:=OI f;have:=(k6.Qc _ e).2;exact⟨.inr (by omega),by omega⟩
theorem U1.tail {M:Nd}{g o:Nat}(h:U1 b w0 wp w d p S0 S T D V lv P (some ⟨g,o,none⟩) m mc (M::rest) K n c ks T'):∃f,(if mc=1 then some (⟨g,o,none⟩:Addr) else some ⟨g,o+3,none⟩)=some ⟨g,f,none⟩/\U1 b w0 wp w d p S0 S T D V lv P (some ⟨g,f,none⟩) (m-1) (mc-1) rest K n c ks T':=by
 obtain⟨f,e,y,_,_⟩:=h.row.tail;exact⟨f,e,h.l,h.o,y,h.kids,h.own,h.Na,h.Qao,λN u=>h.fit N (AO _ u)⟩
end
