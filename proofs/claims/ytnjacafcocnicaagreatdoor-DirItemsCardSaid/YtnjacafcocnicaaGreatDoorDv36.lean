/- The code's edit: pieces -/
import Derived.Test.YtnjacafcocnicaaGreatDoorDv35
namespace Go.Proofs.YtnjacafcocnicaaGreatDoor
open Go Go.RowKit Go.Proofs Tryz
set_option maxHeartbeats 8000000
set_option maxRecDepth 100000
theorem TBn:Eh prog 253 142 3 56 (.agg #[.int .i64 0,.slice none 0 0,.slice none 0 0]):=⟨underlying253,by kernel_rfl,rfl,by omega⟩
def G7 (Q:WD->Prop)(w:WD)(base:Nat)(A:OA)(n c:Nat)(Ns:List Nd):Prop:=
 ∃e,Q8 w base 142 3 A n c e/\e.length=Ns.length/\∀(j:Nat) r N,e[j]?=some r->Ns[j]?=some N->∃A n c B m d,r=Uu N.lvl A n c B m d/\Jm Q N A n c B m d
section
variable {Q:WD->Prop}{w w':WD}{base n c:Nat}{A:OA}{Ns:List Nd}
theorem qwz (Q:WD->Prop)(w:WD)(base:Nat):G7 Q w base none 0 0 []:=⟨[],q0z _ _ _ _,rfl,λj r x e=>by simp at e⟩
theorem G7.below (h:G7 Q w base A n c Ns)(hb:Below w.1.size w w'):G7 Q w' base A n c Ns:=by
 obtain⟨e,h1,h2⟩:=h;exact⟨e,h1.below hb,h2⟩
theorem G7.bnl (h:G7 Q w base A n c Ns):Bf Q w A n c Ns:=by
 obtain⟨e,h1,h2⟩:=h;exact⟨e,h1.Gn (by omega),h2⟩
theorem G7.Qa (h:G7 Q w base A n c Ns):∀k,q01 A=some k->base<=k/\k<w.1.size:=by
 obtain⟨e,h1,_⟩:=h;exact h1.Qa
theorem qfc (ty:TypeId)(y:G7 Q w base A n c Ns){B:OA}{d:Nat}{N:Nd}{J:OA}{W c1:Nat}{M:OA}{U O:Nat}
  (e:Jp w 3 B 1 d [Uu N.lvl J W c1 M U O]) (hq:Jm Q N J W c1 M U O) (hn:n<=1000) (f:base<=w.1.size) :
  ∃H I w',(Builtin.append_ #[253,253] ty #[.slice A n c,.slice B 1 d]).run prog w=.ok (.slice H (n+1) I) w'/\G7 Q w' base H (n+1) I (Ns++[N])/\Below base w w':=by
 obtain⟨q,h1,h2,Y⟩:=y;obtain⟨H,I,w',E,G,Z⟩:=q9j (P:=prog) w TBn ty base A n c q h1 B 1 d _ e (by omega) (qv2 _ _ _ _ _ _ _) (by omega) (by omega) f;refine⟨H,I,w',E,⟨_,G,by simp[h2],λj r' x e F=>?_⟩,Z⟩;by_cases hj:j<q.length
 ·rw[List.getElem?_append_left hj] at e;rw[List.getElem?_append_left (by omega)] at F;exact Y j r' x e F
 ·rw[List.getElem?_append_right (by omega)] at e F;have u:j-q.length=0:=by
   have:=(List.getElem?_eq_some_iff.1 e).1;simp at this;omega
  rw[u] at e;rw[<-h2,u] at F;obtain rfl:=OI e;obtain rfl:=OI F;exact⟨_,_,_,_,_,_,rfl,hq⟩
theorem qck {o:Oper}{a:Act}{K:Act->WD->Prop}{M:Exit->Act->WD->Prop}(J x:Operand)
  (U:o.op=.call { callee:=.builtin .append,args:=#[J,x],argTypes:=#[253,253] })
  (Z:a.eval J=.slice A n c) (f:G7 Q w base A n c Ns) {B:OA} {d:Nat} (hx:a.eval x=.slice B 1 d) {N:Nd} {E:OA} {I c1:Nat} {F:OA} {H G:Nat}
  (Y:Jp w 3 B 1 d [Uu N.lvl E I c1 F H G]) (W:Jm Q N E I c1 F H G) (hn:n<=1000) (e:base<=w.1.size)
  (h:∀u y w',G7 Q w' base u (n+1) y (Ns++[N])->Below base w w'->K (a.put o.dst (.slice u (n+1) y)) w') :
  Oper.wp prog o a w K M:=by
 obtain⟨u,y,w',q,h2,O⟩:=qfc (ty:=o.type) f Y W hn e;unfold Oper.wp execOp;simp only[U,resolve,invoke,builtin,Sem.run_bind,Sem.run_pure,Result.andThen_ok,List.map_toArray,BJ,List.map_nil,Z,hx,q];exact h u y w' h2 O
end
theorem qAp (w:WD)(l:Int)(A:OA)(n c:Nat)(B:OA)(m d:Nat):Jp (w.alloc (.cells #[.int .i64 l,.slice A n c,.slice B m d] 142)) 3 (some ⟨w.1.size,0,none⟩) 1 1 [Uu l A n c B m d]:=(q1n w 142 3 (Uu l A n c B m d) _ rfl rfl).Gn (by omega)
theorem qk7 {N:Nd}{j:Nat}(h:j<parts N):(pieces N).take (j+1)=(pieces N).take j++[N.cut (N.size*j / parts N) (N.size*(j+1) / parts N)]:=by
 have e:(pieces N).length=parts N:=by unfold pieces;simp
 rw[List.take_succ_eq_append_getElem (by omega)];congr 2
 unfold pieces;simp
theorem qk8 {Q:WD->Prop}{N:Nd}{A B:OA}{n c m d:Nat}(hB:Jm Q N A n c B m d)(a1:N.fit)(d8:N.size<=60)(w:WD) :
  Calls prog 175 #[Ym N.lvl A n c B m d] w λe w'=>∃X k kc,e=.returned (.slice X k kc)/\G7 Q w' w.1.size X k kc (pieces N)/\Below w.1.size w w':=by
 have G:=hB.size;have hn:=hB.hn;have hm:=hB.hm;obtain⟨z,hz⟩:∃z,N.size=z:=⟨_,rfl⟩;obtain⟨P,hP⟩:∃P,parts N=P:=⟨_,rfl⟩;obtain⟨f,H⟩:∃f,Qu N.lvl=f:=⟨_,rfl⟩;have d2:6<=f/\f<=12:=by rw[<-H];unfold Qu;split<;>omega
 have W:(z+f-1) / f=P:=by rw[<-hP,<-hz,<-H];rfl
 have c6:P<=100:=by rw[<-W];exact AZ (Nat.div_le_self _ _) (by omega)
 have U:NB (w.alloc (.cells #[.int .i64 N.lvl,.slice A n c,.slice B m d] 142)) w.1.size N.lvl A n c B m d:=NB.new w _ _ _ _ _ _ _ _;have b1:Below w.1.size w (w.alloc (.cells #[.int .i64 N.lvl,.slice A n c,.slice B m d] 142)):=Qi;have HL:=λu=>q3k N.lvl A n c B m d u
 have HS:=λu=>q26 N.lvl A n c B m d (by omega) (by omega) u
 rw[H] at HL;rw[<-G,hz] at HS;have c0:=U.c0;have c1:=U.c1;have c2:=U.c2;unfold Ym at HL HS ⊢;replace HL:=HI HL;replace HS:=HI HS;have d9:IntKind.i64.wrap ((z:Int)+(f:Int))=((z+f:Nat):Int):=by rw[show (z:Int)+(f:Int)=((z+f:Nat):Int) by omega];exact IntWalk.i64_in _ (by omega)
 have e5:IntKind.i64.wrap (((z+f:Nat):Int)-1)=((z+f-1:Nat):Int):=by rw[show ((z+f:Nat):Int)-1=((z+f-1:Nat):Int) by omega];exact IntWalk.i64_in _ (by omega)
 have hq:((z:Int)+(f:Int)-1) / (f:Int)=(P:Int):=by
  rw[<-W,show (z:Int)+(f:Int)-1=((z+f-1:Nat):Int) by omega];exact (Int.natCast_ediv _ _).symm
 have d0:((f:Int)==0)=false:=by simp;omega
 go_enter func175,ntmps175
 go_wp2_with fail
 generalize w.alloc (.cells #[.int .i64 N.lvl,.slice A n c,.slice B m d] 142)=w1 at U b1 c0 c1 c2 ⊢;refine (HL.out w1).mono ?_;rintro e w2 ⟨rfl,b2⟩;have N2:=U.below b2 U.lt;have c0:=N2.c0;have c1:=N2.c1;have c2:=N2.c2;go_wp2_with fail
 refine (HS.out w2).mono ?_;rintro e w3 ⟨rfl,b3⟩;have N3:=N2.below b3 N2.lt;have BB:=b1.trans ((b2.trans (b3.mono b2.size)).mono b1.size);have z1:=N3.lt;clear c0 c1 c2 U N2 b1 b2 b3;go_wp2_with fail
 simp only[hq];clear hq;go_loopw [6,21] (λl i wr=>∃(j:Nat) (X:OA) (kc:Nat),j<=P/\i=.int .i64 (j:Int)/\l=.slice X j kc/\G7 Q wr (w.1.size+1) X j kc ((pieces N).take j)/\NB wr w.1.size N.lvl A n c B m d/\Below w.1.size w wr) (λ_ i _=>P-(intOf i).toNat)
 case atStart=>exact⟨0,none,0,AW _,rfl,rfl,qwz _ _ _,N3,BB⟩
 case round=>
  obtain⟨j,X,kc,hj,rfl,rfl,own,NN,hb⟩:=hrel;have zN:=NN.lt;have zb:=hb.size;have Z:w.1.size+1<=wr.1.size:=zN;by_cases b7:j<P
  ·have HT:=HI (qk7 (N:=N) (j:=j) (by rw[hP];exact b7));obtain⟨lo,F⟩:∃lo,z*j / P=lo:=⟨_,rfl⟩;obtain⟨hi,y⟩:∃hi,z*(j+1) / P=hi:=⟨_,rfl⟩;have a2:lo<=hi:=by rw[<-F,<-y];exact Nat.div_le_div_right (Nat.mul_le_mul_left _ (by omega))
   have d6:hi<=z:=by
    rw[<-y];exact AZ (Nat.div_le_div_right (Nat.mul_le_mul_left z (show j+1<=P by omega))) (by rw[Nat.mul_div_cancel _ (by omega)];exact AE _)
   have Y:=qbc hB a1 (j:=hi) (by omega);obtain⟨A1,n1,c1,B1,m1,d1,e1,q1,l1⟩:=q8h hB a2 Y;have HC:=λu=>q3w N.lvl A n c B m d lo hi a2 Y ⟨hn.2.1,hn.2.2⟩ ⟨hm.2.1,hm.2.2⟩ u
   rw[e1] at HC;unfold Ym at HC;replace HC:=HI HC;have b8:z*j<=6000:=by have:=Nat.mul_le_mul (show z<=60 by omega) (show j<=100 by omega);omega
   have a7:z*(j+1)<=6060:=by have:=Nat.mul_le_mul (show z<=60 by omega) (show j+1<=101 by omega);omega
   have c8:((P:Int)==0)=false:=by simp;omega
   obtain⟨p1,I⟩:∃p1,z*j=p1:=⟨_,rfl⟩;obtain⟨p2,M⟩:∃p2,z*(j+1)=p2:=⟨_,rfl⟩;rw[I] at b8 F;rw[M] at a7 y;have v1:IntKind.i64.wrap ((z:Int)*(j:Int))=(p1:Int):=by rw[<-I,<-Int.natCast_mul];exact IntWalk.i64_in _ (by omega)
   have v2:IntKind.i64.wrap ((z:Int)*((j:Int)+1))=(p2:Int):=by rw[show (z:Int)*((j:Int)+1)=((z*(j+1):Nat):Int) by rw[Int.natCast_mul];rfl,M];exact IntWalk.i64_in _ (by omega)
   have v3:(p1:Int) / (P:Int)=(lo:Int):=by rw[<-F];exact (Int.natCast_ediv _ _).symm
   have v4:(p2:Int) / (P:Int)=(hi:Int):=by rw[<-y];exact (Int.natCast_ediv _ _).symm
   have b6:lo<=60:=by omega
   have b5:hi<=60:=by omega
   have v5:IntKind.i64.wrap (hi:Int)=(hi:Int):=IntWalk.i64_in _ (by omega);have v6:IntKind.i64.wrap (lo:Int)=(lo:Int):=IntWalk.i64_in _ (by omega);obtain⟨J,hJ⟩:∃J,j+1=J:=⟨_,rfl⟩;have e0:IntKind.i64.wrap ((j:Int)+1)=(J:Int):=by rw[<-hJ];exact IntWalk.i64_in _ (by omega)
   have e2:IntKind.i64.wrap ((z:Int)*(J:Int))=(p2:Int):=by rw[<-hJ];exact v2
   have e3:(p1:Int).tdiv (P:Int)=(lo:Int):=by rw[<-v3];exact Int.tdiv_eq_ediv_of_nonneg (by omega)
   have e4:(p2:Int).tdiv (P:Int)=(hi:Int):=by rw[<-v4];exact Int.tdiv_eq_ediv_of_nonneg (by omega)
   replace hJ:=HI hJ;have a8:¬(P:Int)=0:=by omega
   have c7:¬P=0:=by omega
   have d4:decide ((P:Int)=0)=false:=AH a8;have d3:z<=60:=by omega
   have b4:=HI (show (pieces N).take (j+1)=(pieces N).take j++[N.cut lo hi] by rw[HT.out,hP,hz,I,M,F,y]);have a6:=HI (λ(u:WD)=>(l1.symm▸qAp u N.lvl A1 n1 c1 B1 m1 d1:Jp (u.alloc (.cells #[.int .i64 N.lvl,.slice A1 n1 c1,.slice B1 m1 d1] 142)) 3 (some ⟨u.1.size,0,none⟩) 1 1 [Uu (N.cut lo hi).lvl A1 n1 c1 B1 m1 d1]));clear e1 Y hz hP G I M F y HT H W l1;have cells:∀u,Below (w.1.size+1) wr u->u.cell? ⟨w.1.size,0,none⟩=some (.int .i64 N.lvl)/\u.cell? ⟨w.1.size,1,none⟩=some (.slice A n c)/\u.cell? ⟨w.1.size,2,none⟩=some (.slice B m d):=λu hu=>
    have N':=NN.below hu (by omega);⟨N'.c0,N'.c1,N'.c2⟩
   have q:Below wr.1.size wr wr.drew:=(AI _ _).drew;go_wp2_with fail
   go_region_held3 (λu=>u.cell? ⟨w.1.size,0,none⟩=some (.int .i64 N.lvl)/\u.cell? ⟨w.1.size,1,none⟩=some (.slice A n c)/\u.cell? ⟨w.1.size,2,none⟩=some (.slice B m d))
    (first|(with_reducible assumption)|(with_reducible exact cells _ (q.mono Z))|(with_reducible exact cells _ ((q.alloc q.size _).mono Z))|(with_reducible exact b0.out))
    (first
     |(go_at_call 134;(with_reducible refine (HS.out _).mono ?_);rintro e wX ⟨rfl,hX⟩;replace q:=q.trans (hX.mono q.size);clear hX)
     |(go_at_call 133;(with_reducible refine (HC.out _).mono ?_);rintro e wX ⟨rfl,hX⟩;replace q:=q.trans (hX.mono q.size);clear hX)
     |(rw[AA (by rfl)];refine qck (Q:=Q) (base:=w.1.size+1) (.tmp 24) (.tmp 40) (by rfl) (by rfl) (own.below (q.alloc q.size (.cells #[.int .i64 N.lvl,.slice A1 n1 c1,.slice B1 m1 d1] 142))) (by rfl) (a6.out _) q1 (by omega) (by have:=(q.alloc q.size (.cells #[.int .i64 N.lvl,.slice A1 n1 c1,.slice B1 m1 d1] 142)).size;omega) ?_;intro X' b9 w6 O E;have bA:=q.alloc q.size (.cells #[.int .i64 N.lvl,.slice A1 n1 c1,.slice B1 m1 d1] 142);have E:=(bA.mono Z).trans E;have b0:=HI (cells w6 E))
     |fail)
   all_goals (
    go_wp2_with fail
    rw[<-b4.out] at O;exact⟨⟨j+1,X',b9,by omega,by rw[<-hJ.out],rfl,O,NN.below E (by omega),hb.trans (E.mono (by omega))⟩,by simp[intOf];have:=hJ.out;omega⟩)
  ·have d7:P<=j:=by omega
   have d5:¬(j:Int)<(P:Int):=by omega
   have c9:(pieces N).length=P:=by rw[<-hP];unfold pieces;simp
   rw[AN (by omega)] at own;go_wp2;go_ret;exact⟨X,j,kc,rfl,⟨own.choose,own.choose_spec.1.less (by omega),own.choose_spec.2⟩,hb⟩
structure Pl.tidy (P:Pl):Prop where
 kind:∀a b,P.L a=some b->b.kindOk
 laid:∀a:Nat,P.C.fresh (a:Int)=true->∃b,P.L a=some b
section
variable {P:Pl}
theorem qdo {C:Ct}{c:Nat}{x:Int}(h0:C.get (c:Int)≠0){a:Nat}(h:(C.put c x).fresh (a:Int)=true):C.fresh (a:Int)=true:=by
 have f:a<C.n:=by
  obtain⟨n,e,hn⟩:=G5 (q39 h);rw[C.Zk] at hn;omega
 unfold Ct.fresh at h ⊢;rw[q2c C a f] at h;by_cases e:a=c
 ·subst e;rw[AA rfl] at h;rw[AB h0];split at h
  ·cases h
  ·exact h
 ·rw[AB e] at h;exact h
theorem Pl.tidy.Qw (h:P.tidy)(a:Int):Pl.tidy ⟨P.S,P.C.Qw a,P.L⟩:=by
 refine⟨h.kind,λc e=>h.laid c ?_⟩;have e:(P.C.Qw a).fresh (c:Int)=true:=e;unfold Ct.Qw at e;split at e
 ·exact e
 ·rename_i h0;obtain⟨n,rfl,hn⟩:=G5 h0;rw[AJ] at e;exact qdo h0 e
theorem Pl.tidy.ref (h:P.tidy)(a:Int):Pl.tidy ⟨P.S,P.C.ref a,P.L⟩:=by
 refine⟨h.kind,λc f=>h.laid c ?_⟩;have f:(P.C.ref a).fresh (c:Int)=true:=f;unfold Ct.ref at f;split at f
 ·rename_i q;have h0:P.C.get a≠0:=λe=>by unfold Ct.Wn at q;rw[AA e] at q;cases q
  obtain⟨n,rfl,hn⟩:=G5 h0;rw[AJ] at f;exact qdo h0 f
 ·exact f
theorem Pl.tidy.set (h:P.tidy)(a:Int)(N:Nd):(P.Uc a N).tidy:=by
 unfold Pl.Uc;split
 ·refine⟨λc x f=>?_,λc q=>?_⟩
  ·have f:upd P.L a.toNat (some (.node N)) c=some x:=f;by_cases e:c=a.toNat
   ·subst e;rw[Ci] at f;obtain rfl:=OI f;exact trivial
   ·rw[Bv _ _ e] at f;exact h.kind c x f
  ·show ∃b,upd P.L a.toNat (some (.node N)) c=some b;by_cases e:c=a.toNat
   ·subst e;exact⟨_,Ci _ _ _⟩
   ·rw[Bv _ _ e];exact h.laid c q
 ·exact h
theorem Pl.tidy.put (h:P.tidy)(N:Nd):(P.Js N).tidy:=by
 unfold Pl.Js;split
 ·cases q:P.C.pick with
  |none=>rw[qev q];exact h
  |some a=>
   have F:=(Ct.Yw q).2.2.1;have E:=(Ct.Yw q).1;refine⟨λc x u=>?_,λc f=>?_⟩
   ·rw[qjf q] at u;split at u
    ·obtain rfl:=OI u;exact trivial
    ·exact h.kind c x u
   ·rw[qjf q];by_cases e:c=a
    ·exact⟨_,AA e⟩
    ·rw[AB e];refine h.laid c ?_;rw[q49 q] at f;have f:P.C.alloc.fresh (c:Int)=true:=f;rw[(Ct.Yd q).2.2] at f;have y:c<P.C.n:=by
      obtain⟨n,B,h2⟩:=G5 (q39 f);rw[P.C.Zk] at h2;omega
     unfold Ct.fresh at f ⊢;rw[q2c P.C c y,AB e] at f;exact f
 ·exact h
theorem Pl.tidy.leave {P':Pl}{s:Qy}(h:P.tidy)(hl:P.leave s=some P'):P'.tidy:=by
 unfold Pl.leave at hl;split at hl
 ·obtain rfl:=OI hl;exact h
 ·split at hl
  ·obtain rfl:=OI hl;exact h.Qw _
  ·cases hl
theorem qhw:∀(f:LI) {P P':Pl},P.tidy->U7 f P=some P'->P'.tidy
 |[],P,P',h,e=>by obtain rfl:=OI e;exact h
 |a::r,P,P',h,e=>by
  have e:(if P.C.Wn a=0 then U7 r ⟨P.S,P.C.ref a,P.L⟩ else none)=some P':=e;split at e
  ·exact qhw r (h.ref a) e
  ·cases e
theorem qbd:∀(f:LI) {P P':Pl},P.tidy->q3o f P=some P'->P'.tidy
 |[],P,P',h,e=>by obtain rfl:=OI e;exact h
 |a::r,P,P',h,e=>by
  have e:(if P.C.Jw a=0 then q3o r ⟨P.S,P.C.Qw a,P.L⟩ else none)=some P':=e;split at e
  ·exact qbd r (h.Qw a) e
  ·cases e
theorem Pl.tidy.Q9 {P':Pl}{s:Qy}{i j:Nat}(h:P.tidy)(hl:P.Q9 s i j=some P'):P'.tidy:=by
 unfold Pl.Q9 at hl;split at hl
 ·exact qhw _ h hl
 ·split at hl
  ·obtain rfl:=OI hl;exact h
  ·exact qbd _ h hl
end
section
variable {b:Nat}{w w':WD}{d p:Nat}{S0 S T S':NP}{D:DM}{P P':Pl}
theorem Ql.grown (H:Ql b w d p S0 S T D P)(t:Turn S' w w')(hT:∀k,S' k->T k)(h0:∀k,S' k->¬S0 k)(h1:∀k,S' k->¬S k):Ql b w' d p S0 S (grow T w w') D P:=by
 have u:=H.base;have q:=H.Dz;have E:=t.size;have f:∀k,T k->grow T w w' k:=λk e=>⟨.inl e,by have:=(H.tight k e).2;omega⟩
 have y:Pool w p d S (grow T w w') P:=H.pool.mono (λk _ h=>h) (λk e h=>h.1.elim id λh=>by omega) λk h=>f k (q k h)
 exact⟨H.Aq.keep λk e B=>t.block k e λh=>h0 k h B,y.other t (λk e=>f k (hT k e)) h1,λk e=>f k (H.sub k e),H.apart,λk e=>⟨e.1.elim (λh=>(H.tight k h).1) λh=>by omega,e.2⟩⟩
theorem qp0 (H:Ql b w d p S0 S T D P)(F:1<b)(u:Tab w)(q:P.tidy)(a:Int)(N:Nd)(A:OA)(n c:Nat)(B:OA)(m f:Nat)(y:J3 w A n c N.items)(E:Zr w B m f N.kids)(hn:n<=1000)(hm:m<=1000) :
  Calls prog 177 #[.pointer (some ⟨p,0,none⟩),.int .i64 a,.agg #[.int .i64 N.lvl,.slice A n c,.slice B m f]] w λe w'=>e=.returned (.int .i64 (P.Ah a N))/\Ql b w' d p S0 S T D (P.Uc a N)/\Turn S w w'/\Tab w':=by
 refine (qol H.Aq H.pool q.kind q.laid (λk G=>(H.tight k G).2) (AI _ _) a N A n c B m f y E hn hm u).mono ?_;rintro e w' ⟨rfl,R,X⟩;exact⟨rfl,H.step R X,X,H.tab F u X⟩
end
structure Df (b:Nat)(w0 w:WD)(d p:Nat)(S0 S T T':NP)(D:DM)(P:Pl):Prop where
 sys:Ql b w d p S0 S T' D P
 sub:∀k,T k->T' k
 turn:Turn S w0 w
 tab:Tab w
 tidy:P.tidy
 base:1<b
 low:∀k,S0 k\/S k->k<w0.heap.size
 Qa8:∀k,S0 k\/S k->T k
section
variable {b:Nat}{w0 w w':WD}{d p:Nat}{S0 S T T' S':NP}{D:DM}{P P':Pl}
theorem Df.own (h:Df b w0 w d p S0 S T T' D P)(t:Turn S' w w')(hS:∀k,S' k->T' k/\w0.1.size<=k):Df b w0 w' d p S0 S T (grow T' w w') D P:=by
 have q:=t.size;exact⟨h.sys.grown t (λk e=>(hS k e).1) (λk e h0=>by have:=h.low k (.inl h0);have:=(hS k e).2;omega) (λk e h0=>by have:=h.low k (.inr h0);have:=(hS k e).2;omega),
  λk e=>⟨.inl (h.sub k e),by have:=(h.sys.tight k (h.sub k e)).2;omega⟩,h.turn.trans t λk e=>.inr (hS k e).2,h.tab.turned t λf=>by have:=(h.sys.tight _ (hS _ f).1).1;have:=h.base;omega,h.tidy,h.base,h.low,h.Qa8⟩
theorem Df.below (h:Df b w0 w d p S0 S T T' D P)(hb:Below w.1.size w w'):Df b w0 w' d p S0 S T (grow T' w w') D P:=h.own (Qz (S:=λ_=>False) hb) λ_ h=>h.elim
theorem Df.mem (h:Df b w0 w d p S0 S T T' D P){k:Nat}(hk:T' k)(hz:w.1.size<=w'.1.size):grow T' w w' k:=⟨.inl hk,by have:=(h.sys.tight k hk).2;omega⟩
theorem qx0 {k:Nat}(h1:w.1.size<=k)(h2:k<w'.1.size):grow T' w w' k:=⟨.inr h1,h2⟩
theorem Df.step (h:Df b w0 w d p S0 S T T' D P)(H:Ql b w' d p S0 S T' D P')(X:Turn S w w')(ht:Tab w')(hP:P'.tidy):Df b w0 w' d p S0 S T T' D P':=⟨H,h.sub,h.turn.then X,ht,hP,h.base,h.low,h.Qa8⟩
theorem Df.start (H:Ql b w0 d p S0 S T D P)(hb:1<b)(ht:Tab w0)(hP:P.tidy):Df b w0 w0 d p S0 S T T D P:=⟨H,λ_ h=>h,Turn.refl _ _,ht,hP,hb,λk e=>(H.tight k (e.elim (H.sub k) (H.Dz k))).2,λk e=>e.elim (H.sub k) (H.Dz k)⟩
theorem Df.done (h:Df b w0 w d p S0 S T T' D P):Ql b w d p S0 S T D P:=h.sys.less h.sub (λk e=>h.Qa8 k (.inl e)) λk e=>h.Qa8 k (.inr e)
theorem Df.not (h:Df b w0 w d p S0 S T T' D P){k:Nat}(hk:w0.1.size<=k):¬S k:=λe=>by have:=h.low k (.inr e);omega
end
section
variable {Q:WD->Prop}{w w':WD}{X:OA}{k kc:Nat}{Ns:List Nd}
theorem q5t {s:Nat}{A:OA}{n c:Nat}{xs:List (LV)}(h:Jp w s A n c xs){S:NP}(T:Turn S w w')(f:∀k,q01 A=some k->¬S k):Jp w' s A n c xs:=h.keep T.size λg o e q=>T.block g q (f g (by rw[e];rfl))
theorem Bf.turned (h:Bf Q w X k kc Ns){S:NP}(T:Turn S w w')(hA:∀k,q01 X=some k->¬S k):Bf Q w' X k kc Ns:=by
 obtain⟨e,h1,h2⟩:=h;exact⟨e,q5t h1 T hA,h2⟩
theorem Bf.tail {N:Nd}{g o:Nat}(h:Bf Q w (some ⟨g,o,none⟩) k kc (N::Ns)):∃u,(if kc=1 then (some ⟨g,o,none⟩:OA) else Option.map (λx:Addr=>x.add 3) (some ⟨g,o,none⟩))=some ⟨g,u,none⟩/\Bf Q w (some ⟨g,u,none⟩) (k-1) (kc-1) Ns/\1<=k/\1<=kc:=by
 have B:=h.len;rw[AX] at B;obtain⟨f,h1,h2,y⟩:=h;have hd:=h1.drop (k:=1) (by omega);have F:=h1.cap;refine⟨if kc=1 then o else o+3,by split<;>rfl,⟨f.drop 1,?_,by rw[AS,h2,AX];omega,λj r x q E=>y (j+1) r x (by rw[List.getElem?_drop] at q;rw[show j+1=1+j by omega];exact q) (by rw[List.getElem?_cons_succ];exact E)⟩,by omega,by omega⟩;by_cases e:kc=1
 ·rw[AA e] at hd ⊢;exact hd
 ·rw[AB e] at hd ⊢;exact hd
theorem Vr.turned {ss:List Qy}(h:Vr Q w X k kc ss){S:NP}(T:Turn S w w')(hA:∀k,q01 X=some k->¬S k):Vr Q w' X k kc ss:=by
 obtain⟨e,h1,h2⟩:=h;exact⟨e,q5t h1 T hA,h2⟩
end
theorem q7b {w:WD}{base n c:Nat}{A:OA}{ks:List Qn}{o:Oper}{a:Act}{K:Act->WD->Prop}{F:Exit->Act->WD->Prop}(E x:Operand)
  (I:o.op=.call { callee:=.builtin .append,args:=#[E,x],argTypes:=#[72,72] })
  (J:a.eval E=.slice A n c) (q:Us w base A n c ks) {B:OA} {d:Nat} (M:a.eval x=.slice B 1 d) {l:Qn} (O:Zr w B 1 d [l]) (hn:n<=1000) (e:base<=w.1.size)
  (h:∀f y w',Us w' base f (n+1) y (ks++[l])->Turn (λk=>q01 A=some k) w w'->(q01 f=q01 A\/q01 f=some w.1.size)->K (a.put o.dst (.slice f (n+1) y)) w'):Oper.wp prog o a w K F:=by
 obtain⟨f,y,w',u,h2,G,H⟩:=qml (ty:=o.type) q O (by omega) e;unfold Oper.wp execOp;simp only[I,resolve,invoke,builtin,Sem.run_bind,Sem.run_pure,Result.andThen_ok,List.map_toArray,BJ,List.map_nil,J,M,u];exact h f y w' h2 G H
theorem qsw (w:WD)(x:Qn):Zr (w.alloc (.cells x.vs.toArray 125)) (some ⟨w.1.size,0,none⟩) 1 1 [x]:=(q1n w 125 4 x.vs _ rfl rfl).Gn (by omega)
section
variable {s:Qy}{olds:List Qy}{P:Pl}{ks:List Qn}{R:Pl × List Nd × List Qn}{b:Nd}{rest:List Nd}
theorem qbe (h:Ae (s::olds) P [] ks=some R):∃P',P.leave s=some P'/\Ae olds P' [] ks=some R:=by
 unfold Ae at h;split at h
 ·rename_i P' e;exact⟨P',e,h⟩
 ·cases h
theorem q4f (f:s.shared=true\/P.C.fresh s.addr=false)(h:Ae (s::olds) P (b::rest) ks=some R):∃P',P.leave s=some P'/\Ae olds P' (b::rest) ks=some R:=by
 unfold Ae at h;rw[AA f] at h;split at h
 ·rename_i P' e;exact⟨P',e,h⟩
 ·cases h
theorem qbf (h1:s.shared=false)(h2:P.C.fresh s.addr=true)(h:Ae (s::olds) P (b::rest) ks=some R):P.Ah s.addr b=0/\Ae olds (P.Uc s.addr b) rest (ks++[⟨b.least,s.addr⟩])=some R:=by
 unfold Ae at h;rw[AB (by rw[h1,h2];simp)] at h;split at h
 ·rename_i e;exact⟨e,h⟩
 ·cases h
theorem qbg {R:Pl × Option (List Qn)}(h:Xk (b::rest) P ks=some R):(P.Jt b=0/\Xk rest (P.Js b) (ks++[⟨b.least,P.Wi b⟩])=some R)\/(P.Jt b=6/\R=(P.Js b,none)):=by
 unfold Xk at h;split at h
 ·rename_i e;exact .inl ⟨e,h⟩
 ·split at h
  ·rename_i e;exact .inr ⟨e,(OI h).symm⟩
  ·cases h
end
theorem qx1 {e:List Qy}{j:Nat}(h:j<e.length):e.drop j=Wq e j::e.drop (j+1):=by
 rw[List.drop_eq_getElem_cons h];unfold Wq;rw[AG,AC h];rfl
theorem qAq {f:List Nd}{j:Nat}(h:j<f.length):f.drop j=Bo f j::f.drop (j+1):=by
 have e:=q6w h;rw[AC h] at e;rw[List.drop_eq_getElem_cons h,OI e]
structure Qab (w0 w:WD)(p:Nat)(V:LV)(lv:Int)(K:OA)(n c:Nat):Prop where
 t:RB w w0.heap.size [.pointer (some ⟨p,0,none⟩)]
 x:RB w (w0.heap.size+1) V
 r:NB w (w0.heap.size+2) 0 none 0 0 none 0 0
 k:NB w (w0.heap.size+3) lv none 0 0 K n c
theorem Qab.turned {w0 w w':WD}{p:Nat}{V:LV}{lv:Int}{K:OA}{n c:Nat}(h:Qab w0 w p V lv K n c){S:NP}(T:Turn S w w')(hS:∀k,S k->k<w0.1.size\/w0.1.size+4<=k):Qab w0 w' p V lv K n c:=
 ⟨h.t.turned T λe=>by have:=hS _ e;omega,h.x.turned T λe=>by have:=hS _ e;omega,h.r.turned T λe=>by have:=hS _ e;omega,h.k.turned T λe=>by have:=hS _ e;omega⟩
structure Gp (b:Nat)(w0 wp w:WD)(d p:Nat)(S0 S T:NP)(D:DM)(V:LV)(lv:Int)(P:Pl)(X:OA)(m mc:Nat)(rest:List Nd)(K:OA)(n c:Nat)(ks:List Qn)(T':NP):Prop where
 l:Df b w0 w d p S0 S T T' D P
 o:Qab w0 w p V lv K n c
 row:Bf (Turn S w0) w X m mc rest
 kids:Us w wp.heap.size K n c ks
 own:∀g,w0.heap.size<=g->g<wp.heap.size->T' g
 Ph:∀g,q01 X=some g->w0.heap.size+4<=g/\g<wp.heap.size
 Qa9:∀g,q01 K=some g->T' g
 fit:∀N∈rest,N.fit
section
variable {b:Nat}{w0 wp w w':WD}{d p:Nat}{S0 S T T':NP}{D:DM}{V:LV}{lv:Int}{P P':Pl}{X:OA}{m mc:Nat}{rest:List Nd}{K:OA}{n c:Nat}{ks:List Qn}
theorem Gp.next (h:Gp b w0 wp w d p S0 S T D V lv P X m mc rest K n c ks T'){T2:NP}(L:Df b w0 w' d p S0 S T T2 D P')(hT:∀k,T' k->T2 k)(X2:Turn S w w')(hz:w0.1.size+4<=wp.1.size):Gp b w0 wp w' d p S0 S T D V lv P' X m mc rest K n c ks T2:=by
 have f:=h.l.low;refine⟨L,h.o.turned X2 λk q=>.inl (f k (.inr q)),h.row.turned X2 λg e=>h.l.not (by have:=h.Ph g e;omega),h.kids.turned X2 λg e=>h.l.not (by have:=(h.kids.Qa g e).1;omega),λg h1 h2=>hT g (h.own g h1 h2),h.Ph,λg e=>hT g (h.Qa9 g e),h.fit⟩
theorem Gp.below (h:Gp b w0 wp w d p S0 S T D V lv P X m mc rest K n c ks T')(hb:Below w.1.size w w')(hz:w0.1.size+4<=wp.1.size):Gp b w0 wp w' d p S0 S T D V lv P X m mc rest K n c ks (grow T' w w'):=
 h.next (h.l.below hb) (λ_ e=>h.l.mem e hb.size) (Qz hb) hz
theorem Gp.more (h:Gp b w0 wp w d p S0 S T D V lv P X m mc rest K n c ks T')(hz:w0.1.size+4<=wp.1.size){w5 w6:WD}(hb:Below w.1.size w w5){K6:OA}{c6:Nat}{x:Qn}(k6:Us w6 wp.1.size K6 (n+1) c6 (ks++[x]))(T6:Turn (λg=>q01 K=some g) w5 w6)(hK:q01 K6=q01 K\/q01 K6=some w5.1.size) :
  Gp b w0 wp (w6.setCell ⟨w0.1.size+3,2,none⟩ (.slice K6 (n+1) c6)) d p S0 S T D V lv P X m mc rest K6 (n+1) c6 (ks++[x]) (grow T' w (w6.setCell ⟨w0.1.size+3,2,none⟩ (.slice K6 (n+1) c6))):=by
 have B:Turn (λg=>g=w0.1.size+3) w6 (w6.setCell ⟨w0.1.size+3,2,none⟩ (.slice K6 (n+1) c6)):=Gw (a:=⟨w0.1.size+3,2,none⟩) _ rfl;have E:=h.kids.Qa;have y:=h.own;have W:=h.o.t.lt;have M:=h.o.x.lt;have O:=h.o.r.lt;have U:=h.o.k.lt;have Y:=hb.size;have Z:=T6.size;have s7:=B.size;have F:Turn (λg=>g=w0.1.size+3\/q01 K=some g) w (w6.setCell ⟨w0.1.size+3,2,none⟩ (.slice K6 (n+1) c6)):=
  ((Qz (S:=λg=>g=w0.1.size+3\/q01 K=some g) hb).trans T6 λg f=>.inl (.inr f)).trans B λg f=>.inl (.inl f)
 have u:Turn (λg=>q01 K=some g) w w6:=(Qz (S:=λg=>q01 K=some g) hb).trans T6 λg f=>.inl f
 have H:=h.o.t.turned u (λq=>by have:=(E _ q).1;omega);have I:=h.o.x.turned u (λq=>by have:=(E _ q).1;omega);have G:=h.o.r.turned u (λq=>by have:=(E _ q).1;omega);have J:=h.o.k.turned u (λq=>by have:=(E _ q).1;omega);refine⟨h.l.own F λg f=>f.elim (λe=>⟨y g (by omega) (by omega),by omega⟩) λe=>⟨h.Qa9 g e,by have:=(E g e).1;omega⟩,
  ⟨H.keep (B.block _ H.lt (by show ¬w0.1.size=w0.1.size+3;omega)),I.keep (B.block _ I.lt (by show ¬w0.1.size+1=w0.1.size+3;omega)),G.keep (B.block _ G.lt (by show ¬w0.1.size+2=w0.1.size+3;omega)),J.set2 _ _ _⟩,
  h.row.turned F λg f q=>by
   have:=h.Ph g f;exact q.elim (λe=>by omega) λe=>by have:=(E g e).1;omega,
  k6.turned B λg f q=>by have q:g=w0.1.size+3:=q;have:=(k6.Qa g f).1;omega,
  λg h1 h2=>h.l.mem (y g h1 h2) (by omega),h.Ph,λg f=>?_,h.fit⟩
 rcases hK with e|e
 ·exact h.l.mem (h.Qa9 g (e▸f)) (by omega)
 ·rw[e] at f;obtain rfl:=OI f;have:=(k6.Qa _ e).2;exact⟨.inr (by omega),by omega⟩
theorem Gp.tail {M:Nd}{g o:Nat}(h:Gp b w0 wp w d p S0 S T D V lv P (some ⟨g,o,none⟩) m mc (M::rest) K n c ks T'):∃f,(if mc=1 then some (⟨g,o,none⟩:Addr) else some ⟨g,o+3,none⟩)=some ⟨g,f,none⟩/\Gp b w0 wp w d p S0 S T D V lv P (some ⟨g,f,none⟩) (m-1) (mc-1) rest K n c ks T':=by
 obtain⟨f,e,u,_,_⟩:=h.row.tail;exact⟨f,e,h.l,h.o,u,h.kids,h.own,h.Ph,h.Qa9,λN q=>h.fit N (AO _ q)⟩
end
section
variable {b:Nat}{w:WD}{d p:Nat}{S0 S T:NP}{D:DM}{P P':Pl}
def Qap (r:Option (List Qn)):Int:=match r with
 |some _=>0
 |none=>6
theorem qmp (H:Ql b w d p S0 S T D P)(hb:1<b)(ht:Tab w)(hP:P.tidy)(x:Tv)(A:OA)(n c:Nat)(B:OA)(m dd:Nat)(hB:Jm (Turn S w) x.N A n c B m dd)(b7:x.N.fit)(i2:x.N.size<=40)(hl:0<=x.N.lvl/\x.N.lvl<8)
  (Y:OA) (k kc:Nat) (hY:∀u,Turn S w u->Vr (Turn S w) u Y k kc x.olds) (hk:k<=10) {r:Option (List Qn)} (a1:P.Wl x=some (P',r)) (i j:Int) :
  Calls prog 137 #[tv p,.agg (Xt x.N.lvl A n c B m dd Y k kc i j).toArray] w λe w'=>∃A n c B m dd l,e=.returned (.tuple #[Ym l A n c B m dd,.int .i64 (Qap r)])/\(∀ks,r=some ks->l=x.N.lvl+1/\Jm (Turn S w') ⟨x.N.lvl+1,[],ks⟩ A n c B m dd)/\Ql b w' d p S0 S T D P'/\Turn S w w'/\Tab w'/\P'.tidy:=by
 obtain⟨N,olds,xi,xj⟩:=x;dsimp only at hB b7 i2 hl hY a1 ⊢;obtain⟨lv,d5⟩:∃lv,N.lvl=lv:=⟨_,rfl⟩;rw[d5] at hl;have i3:=(hY w (Turn.refl _ _)).len;obtain⟨P1,U,b1,hO,hN⟩:∃P1 U b1,Ae olds P (pieces N) []=some (P1,U,b1)/\Xk U P1 b1=some (P',r):=by
  unfold Pl.Wl at a1;dsimp only at a1;split at a1
  ·rename_i P1 U b1 e;exact⟨P1,U,b1,e,a1⟩
  ·cases a1
 clear a1;have i1:(pieces N).length<=40:=by
  unfold pieces parts;rw[AF,List.length_range];have:6<=Qu N.lvl:=by unfold Qu;split<;>omega
  exact AZ (Nat.div_le_div_right (show N.size+Qu N.lvl-1<=40*Qu N.lvl by omega)) (by rw[Nat.mul_div_cancel _ (by omega)];exact AE _)
 have i0:∀M∈pieces N,M.fit:=λM hM=>by
  unfold pieces at hM;obtain⟨q,_,rfl⟩:=List.mem_map.1 hM;exact q8i b7 _ _
 have b4:Below w.1.size w ((((w.alloc (.cells #[.pointer (some ⟨p,0,none⟩)] 137)).alloc (.cells (Xt lv A n c B m dd Y k kc i j).toArray 217)).alloc (.cells #[.int .i64 0,.slice none 0 0,.slice none 0 0] 142)).alloc (.cells #[.int .i64 (lv+1),.slice none 0 0,.slice none 0 0] 142)):=(((Qi).alloc (by simp) _).alloc (by simp;omega) _).alloc (by simp;omega) _;have O4:Qab w ((((w.alloc (.cells #[.pointer (some ⟨p,0,none⟩)] 137)).alloc (.cells (Xt lv A n c B m dd Y k kc i j).toArray 217)).alloc (.cells #[.int .i64 0,.slice none 0 0,.slice none 0 0] 142)).alloc (.cells #[.int .i64 (lv+1),.slice none 0 0,.slice none 0 0] 142)) p (Xt lv A n c B m dd Y k kc i j) (lv+1) none 0 0:=by
  have q1:=RB.new w [.pointer (some ⟨p,0,none⟩)] 137;have q2:=RB.new (w.alloc (.cells #[.pointer (some ⟨p,0,none⟩)] 137)) (Xt lv A n c B m dd Y k kc i j) 217;have q3:=NB.new2 (w.alloc (.cells #[.pointer (some ⟨p,0,none⟩)] 137)) (.cells (Xt lv A n c B m dd Y k kc i j).toArray 217) 0 none 0 0 none 0 0 142;have q4:=NB.new2 ((w.alloc (.cells #[.pointer (some ⟨p,0,none⟩)] 137)).alloc (.cells (Xt lv A n c B m dd Y k kc i j).toArray 217)) (.cells #[.int .i64 0,.slice none 0 0,.slice none 0 0] 142) (lv+1) none 0 0 none 0 0 142;simp only[BH] at q2 q3 q4;exact⟨((q1.below (Qi) (by simp<;>omega)).below (Qi) (by simp<;>omega)).below (Qi) (by simp<;>omega),(q2.below (Qi) (by simp<;>omega)).below (Qi) (by simp<;>omega),q3.below (Qi) (by simp<;>omega),q4⟩
 have z4:((((w.alloc (.cells #[.pointer (some ⟨p,0,none⟩)] 137)).alloc (.cells (Xt lv A n c B m dd Y k kc i j).toArray 217)).alloc (.cells #[.int .i64 0,.slice none 0 0,.slice none 0 0] 142)).alloc (.cells #[.int .i64 (lv+1),.slice none 0 0,.slice none 0 0] 142)).1.size=w.1.size+4:=by simp
 have Hp:=λ(u:WD)=>qk8 hB b7 (by omega) u
 rw[d5] at Hp;replace Hp:=HI Hp;have j0:IntKind.i64.wrap (lv+1)=lv+1:=IntWalk.i64_in _ (by omega);have y0:=O4.t.cell 0 rfl;have d7:=O4.x.cell 0 rfl;have d8:=O4.x.cell 1 rfl;have d9:=O4.x.cell 2 rfl;rw[d5];unfold tv;unfold Xt at b4 O4 z4 d7 d8 d9 y0 ⊢;go_enter func137,ntmps137
 go_wp2_with fail
 generalize ((((w.alloc (.cells #[.pointer (some ⟨p,0,none⟩)] 137)).alloc (.cells #[.int .i64 lv,.slice A n c,.slice B m dd,.slice Y k kc,.int .i64 i,.int .i64 j] 217)).alloc (.cells #[.int .i64 0,.slice none 0 0,.slice none 0 0] 142)).alloc (.cells #[.int .i64 (lv+1),.slice none 0 0,.slice none 0 0] 142))=w4 at b4 O4 z4 d7 d8 d9 y0 ⊢;refine (Hp.out w4).mono ?_;rintro e wp ⟨X,m0,mc,rfl,c7,b5⟩;have z5:=b5.size;have Z:w.1.size+4<=wp.1.size:=by omega
 have bp:Below w.1.size w wp:=b4.trans (b5.mono b4.size);have L0:=(Df.start H hb ht hP).below bp;have I0:Gp b w wp wp d p S0 S T D [.int .i64 lv,.slice A n c,.slice B m dd,.slice Y k kc,.int .i64 i,.int .i64 j] (lv+1) P X m0 mc (pieces N) none 0 0 [] (grow T w wp):=by
  have O5:=O4.turned (Qz (S:=λ_=>False) b5) λ_ h=>h.elim
  exact⟨L0,O5,c7.bnl,qmk _ _,λg h1 h2=>qx0 h1 h2,λg hg=>by have:=c7.Qa g hg;omega,λg hg=>by (cases hg),i0⟩
 have x3:=I0.o.x.cell 3 rfl;clear O4 c7 d7 d8 d9 y0 Hp L0;go_wp2_with fail
 go_loopw [7,29] (λl q wr=>∃(a:Nat) (Pa:Pl) (T':NP) (X:OA) (m1 mc:Nat) (rest:List Nd) (K:OA) (n1 c1:Nat) (ks:List Qn),a<=k/\n1<=a/\rest.length<=40/\q=.int .i64 (a:Int)/\l=.slice X m1 mc/\Gp b w wp wr d p S0 S T D [.int .i64 lv,.slice A n c,.slice B m dd,.slice Y k kc,.int .i64 i,.int .i64 j] (lv+1) Pa X m1 mc rest K n1 c1 ks T'/\Ae (olds.drop a) Pa rest ks=some (P1,U,b1)) (λ_ q _=>k-(intOf q).toNat)
 case atStart=>exact⟨0,P,_,X,m0,mc,_,none,0,0,[],AW _,AE _,i1,rfl,rfl,I0,hO⟩
 case round=>
  obtain⟨a,Pa,T',X,m1,mc,rest,K,n1,c1,ks,ha,g8,d1,rfl,rfl,I,a6⟩:=hrel;by_cases d4:a<k
  ·rw[qx1 (by omega)] at a6;obtain⟨g,o,As,ns,cs,Bs,ms,ds,g4,hg,b0,g5⟩:=(hY wr I.l.turn).get d4;obtain⟨⟨sN,G,nx,hd,sh⟩,hs⟩:∃s,Wq olds a=s:=⟨_,rfl⟩;rw[hs] at a6 b0 g5;subst g4;have f0:=b0 0 _ rfl;have f1:=b0 1 _ rfl;have f2:=b0 2 _ rfl;have f3:=b0 3 _ rfl;have f4:=b0 4 _ rfl;have f5:=b0 5 _ rfl;have f6:=b0 6 _ rfl;rw[Nat.add_zero] at f0;have y0:=I.o.t.cell 0 rfl;have d6:=I.row.len
   cases rest with
   |nil=>
    obtain⟨P2,hv,a7⟩:=qbe a6;obtain rfl:0=m1:=d6;go_wp2_with (first
     |(refine Rf rfl _ _ rfl wr.1.size rfl sN.lvl As ns cs Bs ms ds G (nx:Int) hd sh rfl (Nc wr) rfl ?_;intro w1 E T1
       have f:Below wr.1.size wr w1:=((AI _ _).alloc (AE _) Uy).trans (T1.below (λk hk=>by have:k=wr.1.size:=hk;omega) (by simp));have y:=I.below f Z;have y0:=y.o.t.cell 0 rfl;have e0:=E.cell 0 rfl;have e1:=E.cell 1 rfl;have e2:=E.cell 2 rfl;have e3:=E.cell 3 rfl;have e4:=E.cell 4 rfl;have e5:=E.cell 5 rfl;have e6:=E.cell 6 rfl)
     |fail)
    have Hv:=q5s y.l.sys hb y.l.tab ⟨sN,G,nx,hd,sh⟩ As ns cs Bs ms ds hv;refine Hv.mono ?_;rintro e w2 ⟨rfl,H2,X2,t2⟩;have I2:=y.next (y.l.step H2 X2 t2 (y.l.tidy.leave hv)) (λ_ h=>h) X2 Z;clear f0 f1 f2 f3 f4 f5 f6 e0 e1 e2 e3 e4 e5 e6 y0;go_wp2_with fail
    exact⟨⟨a+1,P2,_,X,0,mc,[],K,n1,c1,ks,by omega,by omega,d1,by go_num,rfl,I2,a7⟩,by simp[intOf];omega⟩
   |cons M rest=>
    rw[AX] at d6;have i6:¬(m1:Int)=0:=by omega
    have i7:((m1:Int)==0)=false:=by simp;omega
    have i8:(0:Int)<(m1:Int):=by omega
    have i9:0<m1:=by omega
    cases sh with
    |true=>
     obtain⟨P2,hv,a7⟩:=q4f (.inl rfl) a6;go_wp2_with (first
      |(refine Rf rfl _ _ rfl wr.1.size rfl sN.lvl As ns cs Bs ms ds G (nx:Int) hd true rfl (Nc wr) rfl ?_;intro w1 E T1
        have f:Below wr.1.size wr w1:=((AI _ _).alloc (AE _) Uy).trans (T1.below (λk hk=>by have:k=wr.1.size:=hk;omega) (by simp));have y:=I.below f Z;have y0:=y.o.t.cell 0 rfl;have e0:=E.cell 0 rfl;have e1:=E.cell 1 rfl;have e2:=E.cell 2 rfl;have e3:=E.cell 3 rfl;have e4:=E.cell 4 rfl;have e5:=E.cell 5 rfl;have e6:=E.cell 6 rfl)
      |fail)
     have Hv:=q5s y.l.sys hb y.l.tab ⟨sN,G,nx,hd,true⟩ As ns cs Bs ms ds hv;refine Hv.mono ?_;rintro e w2 ⟨rfl,H2,X2,t2⟩;have I2:=y.next (y.l.step H2 X2 t2 (y.l.tidy.leave hv)) (λ_ h=>h) X2 Z;clear f0 f1 f2 f3 f4 f5 f6 e0 e1 e2 e3 e4 e5 e6 y0;go_wp2_with fail
     exact⟨⟨a+1,P2,_,X,m1,mc,M::rest,K,n1,c1,ks,by omega,by omega,d1,by go_num,rfl,I2,a7⟩,by simp[intOf];omega⟩
    |false=>
     obtain⟨fr,d0⟩:∃fr,Pa.C.fresh G=fr:=⟨_,rfl⟩
     cases fr with
     |false=>
      obtain⟨P2,hv,a7⟩:=q4f (.inr d0) a6;go_wp2_with (first
       |(refine Rf rfl _ _ rfl wr.1.size rfl sN.lvl As ns cs Bs ms ds G (nx:Int) hd false rfl (Nc wr) rfl ?_;intro w1 E T1
         have f:Below wr.1.size wr w1:=((AI _ _).alloc (AE _) Uy).trans (T1.below (λk hk=>by have:k=wr.1.size:=hk;omega) (by simp));have y:=I.below f Z;have y0:=y.o.t.cell 0 rfl;have e0:=E.cell 0 rfl;have e1:=E.cell 1 rfl;have e2:=E.cell 2 rfl;have e3:=E.cell 3 rfl;have e4:=E.cell 4 rfl;have e5:=E.cell 5 rfl;have e6:=E.cell 6 rfl)
       |fail)
      refine (q85 y.l.sys.pool G false d0).mono ?_;rintro e _ ⟨rfl,rfl⟩;go_wp2_with fail
      have Hv:=q5s y.l.sys hb y.l.tab ⟨sN,G,nx,hd,false⟩ As ns cs Bs ms ds hv;refine Hv.mono ?_;rintro e w2 ⟨rfl,H2,X2,t2⟩;have I2:=y.next (y.l.step H2 X2 t2 (y.l.tidy.leave hv)) (λ_ h=>h) X2 Z;clear f0 f1 f2 f3 f4 f5 f6 e0 e1 e2 e3 e4 e5 e6 y0;go_wp2_with fail
      exact⟨⟨a+1,P2,_,X,m1,mc,M::rest,K,n1,c1,ks,by omega,by omega,d1,by go_num,rfl,I2,a7⟩,by simp[intOf];omega⟩
     |true=>
      obtain⟨hE,a7⟩:=qbf rfl d0 a6;dsimp only at hE a7;obtain⟨J,o2,Am,nm,cm,Bm,mm,dm,d3,b8,m0,a8,m2,O⟩:=I.row.get (show 0<m1 by omega);subst d3;rw[show Bo (M::rest) 0=M from rfl] at m0 O;rw[Nat.zero_mul,Nat.add_zero] at m0 a8 m2;have g9:=O.hn;have g7:=O.hm;have c9:=I.fit M (AP ..);go_wp2_with (first
       |(refine Rf rfl _ _ rfl wr.1.size rfl sN.lvl As ns cs Bs ms ds G (nx:Int) hd false rfl (Nc wr) rfl ?_;intro w1 E T1
         have f:Below wr.1.size wr w1:=((AI _ _).alloc (AE _) Uy).trans (T1.below (λk hk=>by have:k=wr.1.size:=hk;omega) (by simp));have y:=I.below f Z;have y0:=y.o.t.cell 0 rfl;have e0:=E.cell 0 rfl;have e1:=E.cell 1 rfl;have e2:=E.cell 2 rfl;have e3:=E.cell 3 rfl;have e4:=E.cell 4 rfl;have e5:=E.cell 5 rfl;have e6:=E.cell 6 rfl)
       |fail)
      refine (q85 y.l.sys.pool G true d0).mono ?_;rintro e _ ⟨rfl,rfl⟩;have gy:∀u:Grown w1,u.to.cell? ⟨w.1.size,0,none⟩=some (.pointer (some ⟨p,0,none⟩)):=Grown.cell y0 y.o.t.lt;have g3:∀u:Grown w1,u.to.cell? ⟨wr.1.size,3,none⟩=some (.int .i64 G):=Grown.cell e3 E.lt;have e8:∀u:Grown w1,u.to.cell? ⟨J,o2,none⟩=some (.int .i64 M.lvl):=Grown.cell ((f.cell (p:=⟨J,o2,none⟩) b8).trans m0) (by have:=f.size;show J<_;omega);have e9:∀u:Grown w1,u.to.cell? ⟨J,o2+1,none⟩=some (.slice Am nm cm):=Grown.cell ((f.cell (p:=⟨J,o2+1,none⟩) b8).trans a8) (by have:=f.size;show J<_;omega);have f9:∀u:Grown w1,u.to.cell? ⟨J,o2+2,none⟩=some (.slice Bm mm dm):=Grown.cell ((f.cell (p:=⟨J,o2+2,none⟩) b8).trans m2) (by have:=f.size;show J<_;omega);clear f0 f1 f2 f3 f4 f5 f6 e0 e1 e2 e4 e5 e6;go_wp2_with fail
      refine q1m 8 (by kernel_rfl) (by kernel_rfl) ?_;simp only[List.take_succ_cons,List.take_zero,List.drop_succ_cons,List.drop_zero];repeat (go_big_quiet_step (first|fail))
      refine wpQuiet_nil ?_;rintro _ ⟨u,rfl⟩;have Iu:=y.below u.ok Z;have Hs:=qp0 Iu.l.sys hb Iu.l.tab Iu.l.tidy G M Am nm cm Bm mm dm (O.its.Y3 Iu.l.turn) (O.Ef _ Iu.l.turn) (by omega) (by omega);rw[hE] at Hs;go_wp2_with fail
      refine Hs.mono ?_;rintro e w2 ⟨rfl,H2,X2,t2⟩;have I2:=Iu.next (Iu.l.step H2 X2 t2 (Iu.l.tidy.set G M)) (λ_ h=>h) X2 Z;have R2:=(E.below u.ok E.lt).turned X2 (Iu.l.not (by have:=I.l.turn.size;omega));have c8:w2.1[J]?=wr.1[J]?:=(X2.block J (by have:=f.size;have:=u.ok.size;omega) (I.l.not (by have:=I.Ph J rfl;omega))).trans ((u.ok.block J (by have:=f.size;omega)).trans (f.block J b8));have m0:=(AY (a:=⟨J,o2,none⟩) c8).trans m0;have a8:=(AY (a:=⟨J,o2+1,none⟩) c8).trans a8;have m2:=(AY (a:=⟨J,o2+2,none⟩) c8).trans m2;have z2:J<w2.1.size:=by have:=f.size;have:=u.ok.size;have:=X2.size;omega
      clear gy g3 e8 e9 f9 c8 y0 e3;have F:∀v,Below w2.1.size w2 v->v.cell? ⟨w.1.size+1+1+1,2,none⟩=some (.slice K n1 c1)/\v.cell? ⟨J,o2,none⟩=some (.int .i64 M.lvl)/\v.cell? ⟨J,o2+1,none⟩=some (.slice Am nm cm)/\v.cell? ⟨J,o2+2,none⟩=some (.slice Bm mm dm)/\v.cell? ⟨wr.1.size,3,none⟩=some (.int .i64 G):=λv hv=>
       ⟨(I2.o.k.below hv I2.o.k.lt).c2,(hv.cell (p:=⟨J,o2,none⟩) z2).trans m0,(hv.cell (p:=⟨J,o2+1,none⟩) z2).trans a8,(hv.cell (p:=⟨J,o2+2,none⟩) z2).trans m2,(R2.below hv R2.lt).cell 3 rfl⟩
      have b3:∀q,q01 K=some q->wp.1.size<=q/\q<wr.1.size:=λq hq=>I.kids.Qa q hq
      have zX:=I.Ph J rfl;have j7:wp.1.size<=wr.1.size:=by have:=(I.l.sys.tight _ (I.own (wp.1.size-1) (by omega) (by omega))).2;omega
      have FT:∀v v',Below w2.1.size w2 v->Turn (λq=>q01 K=some q) v v'->v'.cell? ⟨w.1.size+1+1+1,2,none⟩=some (.slice K n1 c1)/\v'.cell? ⟨J,o2,none⟩=some (.int .i64 M.lvl)/\v'.cell? ⟨J,o2+1,none⟩=some (.slice Am nm cm)/\v'.cell? ⟨J,o2+2,none⟩=some (.slice Bm mm dm)/\v'.cell? ⟨wr.1.size,3,none⟩=some (.int .i64 G):=λv v' hv T=>by
       have hs:=hv.size;have e1:v'.1[w.1.size+1+1+1]?=v.1[w.1.size+1+1+1]?:=T.block _ (by have:=I2.o.k.lt;omega) (λh=>by have:=(b3 _ h).1;omega);have e2:v'.1[J]?=v.1[J]?:=T.block _ (by omega) (λh=>by have:=(b3 _ h).1;omega);have e3:v'.1[wr.1.size]?=v.1[wr.1.size]?:=T.block _ (by have:=R2.lt;omega) (λh=>by have:=(b3 _ h).2;omega);obtain⟨x1,x2,x3,x4,x5⟩:=F v hv;exact⟨(AY (a:=⟨_,2,none⟩) e1).trans x1,(AY (a:=⟨J,o2,none⟩) e2).trans x2,(AY (a:=⟨J,o2+1,none⟩) e2).trans x3,(AY (a:=⟨J,o2+2,none⟩) e2).trans x4,(AY (a:=⟨_,3,none⟩) e3).trans x5⟩
      clear m0 a8 m2;have HK:=λ(v:WD) (hv:Below w2.1.size w2 v)=>qhs M c9 G Am nm cm Bm mm dm v (O.its.Y3 (I2.l.turn.then (Qz hv))) (O.Ef _ (I2.l.turn.then (Qz hv))) (by omega) (by omega)
      obtain⟨z,hz⟩:∃z,M.least=z:=⟨_,rfl⟩;rw[hz] at HK a7;unfold Ym Qn.vs at HK;dsimp only at HK;replace HK:=HI HK;have b9:=HI (λ(v:WD)=>(qsw v ⟨z,G⟩:Zr (v.alloc (.cells #[.int .i64 z.obj,.int .i64 z.kind,.int .i64 z.off,.int .i64 G] 125)) (some ⟨v.1.size,0,none⟩) 1 1 [⟨z,G⟩]));have j9:n1<=1000:=by omega
      have j8:wp.1.size<=w2.1.size:=by have:=f.size;have:=u.ok.size;have:=X2.size;omega
      have W:Below w2.1.size w2 w2.drew:=(AI _ _).drew;clear hz;go_wp2_with fail
      obtain⟨q1,q2,q3,q4,q5⟩:=F _ W;go_region_law (first
       |(rw[AA (by rfl)];refine q7b (base:=wp.1.size) (.tmp 70) (.tmp 77) (by rfl) (by rfl) (I2.kids.below (W.alloc W.size (.cells #[.int .i64 z.obj,.int .i64 z.kind,.int .i64 z.off,.int .i64 G] 125))) (by rfl) (b9.out _) (by omega) (by have:=(W.alloc W.size (.cells #[.int .i64 z.obj,.int .i64 z.kind,.int .i64 z.off,.int .i64 G] 125)).size;omega) ?_;intro K6 c6 w6 k6 T6 b6;have bA:=W.alloc W.size (.cells #[.int .i64 z.obj,.int .i64 z.kind,.int .i64 z.off,.int .i64 G] 125);have I6:=HI (I2.more Z bA k6 T6 b6);have N6:=(I2.o.k.below bA I2.o.k.lt).turned T6 (λh=>by have:=(b3 _ h).1;omega);have f2:=N6.fz 2;have p2:=N6.c2;clear N6 k6 T6 b6)
       |(go_simp;go_at_call 178;(with_reducible refine (HK.out _ W).mono ?_);rintro e wX ⟨rfl,hX⟩;replace W:=W.trans (hX.mono W.size);clear hX q1 q2 q3 q4 q5;obtain⟨q1,q2,q3,q4,q5⟩:=F _ W;obtain⟨r1,r2,r3,r4,r5⟩:=F _ (W.alloc W.size (.cells #[.int .i64 z.obj,.int .i64 z.kind,.int .i64 z.off,.int .i64 G] 125))))
      all_goals (
       go_wp2_with fail
       rw[AX] at d1;obtain⟨o',eo,I7⟩:=I6.out.tail;rw[eo];exact⟨⟨a+1,Pa.Uc G M,_,some ⟨J,o',none⟩,m1-1,mc-1,rest,K6,n1+1,c6,ks++[⟨z,G⟩],by omega,by omega,by omega,by go_num,rfl,I7,a7⟩,by simp[intOf];omega⟩)
  ·obtain⟨rfl,rfl,rfl⟩:Pa=P1/\rest=U/\ks=b1:=by
    rw[List.drop_eq_nil_of_le (by omega)] at a6;unfold Ae at a6;injection OI a6 with e1 e2;injection e2 with e2 e3;exact⟨e1,e2,e3⟩
   have d6:=I.row.len;have g6:¬(a:Int)<(k:Int):=by omega
   clear a6 hO;go_wp2_with fail
   go_loopw [86] (λq wr=>∃(a2:Nat) (Pb:Pl) (T2:NP) (K:OA) (n1 c1:Nat) (ks:List Qn),a2<=m1/\n1<=k+a2/\q=.int .i64 (a2:Int)/\Gp b w wp wr d p S0 S T D [.int .i64 lv,.slice A n c,.slice B m dd,.slice Y k kc,.int .i64 i,.int .i64 j] (lv+1) Pb X m1 mc rest K n1 c1 ks T2/\Xk (rest.drop a2) Pb ks=some (P',r)) (λq _=>m1-(intOf q).toNat)
   case atStart=>exact⟨0,Pa,_,K,n1,c1,ks,AW _,by omega,rfl,I,hN⟩
   case round=>
    clear I;obtain⟨a2,Pb,T2,K,n1,c1,ks,i5,g8,rfl,I,b2⟩:=hrel;by_cases d4:a2<m1
    ·rw[qAq (by omega)] at b2;obtain⟨J,o2,Am,nm,cm,Bm,mm,dm,d3,b8,m0,a8,m2,O⟩:=I.row.get d4;have c9:=I.fit (Bo rest a2) (by have:=List.mem_of_getElem? (q6w (Ns:=rest) (j:=a2) (by omega));exact this);obtain⟨M,hM⟩:∃M,Bo rest a2=M:=⟨_,rfl⟩;rw[hM] at b2 O c9 m0;subst d3;have g9:=O.hn;have g7:=O.hm;have y0:=I.o.t.cell 0 rfl;go_wp2_with (first
      |(refine q29 rfl _ _ rfl wr.1.size rfl M.lvl Am nm cm Bm mm dm rfl (NB.new wr 0 none 0 0 none 0 0 142) ?_;intro w1 E T1
        have f:Below wr.1.size wr w1:=(Qi).trans (T1.below (λk hk=>by have:k=wr.1.size:=hk;omega) (by simp));have y:=I.below f Z;have y0:=y.o.t.cell 0 rfl;have e0:=E.c0;have e1:=E.c1;have e2:=E.c2)
      |fail)
     have Hp:=qdb y.l.sys hb y.l.tab M Am nm cm Bm mm dm (λu hu=>⟨O.its.Y3 (y.l.turn.then hu),O.Ef _ (y.l.turn.then hu)⟩) (by omega) (by omega);have zw:wp.1.size<=wr.1.size:=by have:=(I.l.sys.tight _ (I.own (wp.1.size-1) (by omega) (by omega))).2;omega
     have b3:∀q,q01 K=some q->wp.1.size<=q/\q<wr.1.size:=λq hq=>I.kids.Qa q hq
     rcases qbg b2 with⟨hE,d2⟩|⟨hE,hR⟩
     ·rw[hE] at Hp;refine Hp.mono ?_;rintro e w2 ⟨rfl,H2,X2,t2⟩;have I2:=y.next (y.l.step H2 X2 t2 (y.l.tidy.put M)) (λ_ h=>h) X2 Z;have R2:=E.turned X2 (y.l.not (by omega));have zs:=f.size;have k3:=X2.size;obtain⟨G,e7⟩:∃G,Pb.Wi M=G:=⟨_,rfl⟩;rw[e7] at d2 ⊢;have F:∀v,Below w2.1.size w2 v->v.cell? ⟨w.1.size+1+1+1,2,none⟩=some (.slice K n1 c1)/\v.cell? ⟨wr.1.size,0,none⟩=some (.int .i64 M.lvl)/\v.cell? ⟨wr.1.size,1,none⟩=some (.slice Am nm cm)/\v.cell? ⟨wr.1.size,2,none⟩=some (.slice Bm mm dm):=λv hv=>
       have r:=R2.below hv R2.lt;⟨(I2.o.k.below hv I2.o.k.lt).c2,r.c0,r.c1,r.c2⟩
      clear y0 e0 e1 e2 m0 a8 m2 e7;have HK:=λ(v:WD) (hv:Below w2.1.size w2 v)=>qhs M c9 G Am nm cm Bm mm dm v (O.its.Y3 (I2.l.turn.then (Qz hv))) (O.Ef _ (I2.l.turn.then (Qz hv))) (by omega) (by omega)
      obtain⟨z,hz⟩:∃z,M.least=z:=⟨_,rfl⟩;rw[hz] at HK d2;unfold Ym Qn.vs at HK;dsimp only at HK;replace HK:=HI HK;have b9:=HI (λ(v:WD)=>(qsw v ⟨z,G⟩:Zr (v.alloc (.cells #[.int .i64 z.obj,.int .i64 z.kind,.int .i64 z.off,.int .i64 G] 125)) (some ⟨v.1.size,0,none⟩) 1 1 [⟨z,G⟩]));have i4:m1<=40:=by omega
      have W:Below w2.1.size w2 w2.drew:=(AI _ _).drew;clear hz;go_wp2_with fail
      obtain⟨q1,q2,q3,q4⟩:=F _ W;go_region_law (first
       |(rw[AA (by rfl)];refine q7b (base:=wp.1.size) (.tmp 104) (.tmp 108) (by rfl) (by rfl) (I2.kids.below (W.alloc W.size (.cells #[.int .i64 z.obj,.int .i64 z.kind,.int .i64 z.off,.int .i64 G] 125))) (by rfl) (b9.out _) (by omega) (by have:=(W.alloc W.size (.cells #[.int .i64 z.obj,.int .i64 z.kind,.int .i64 z.off,.int .i64 G] 125)).size;omega) ?_;intro K6 c6 w6 k6 T6 b6;have bA:=W.alloc W.size (.cells #[.int .i64 z.obj,.int .i64 z.kind,.int .i64 z.off,.int .i64 G] 125);have I6:=HI (I2.more Z bA k6 T6 b6);have N6:=(I2.o.k.below bA I2.o.k.lt).turned T6 (λh=>by have:=(b3 _ h).1;omega);have f2:=N6.fz 2;have p2:=N6.c2;clear N6 k6 T6 b6)
       |(go_simp;go_at_call 178;(with_reducible refine (HK.out _ W).mono ?_);rintro e wX ⟨rfl,hX⟩;replace W:=W.trans (hX.mono W.size);clear hX q1 q2 q3 q4;obtain⟨q1,q2,q3,q4⟩:=F _ W;obtain⟨r1,r2,r3,r4⟩:=F _ (W.alloc W.size (.cells #[.int .i64 z.obj,.int .i64 z.kind,.int .i64 z.off,.int .i64 G] 125))))
      all_goals (
       go_wp2_with fail
       exact⟨⟨a2+1,Pb.Js M,_,K6,n1+1,c6,ks++[⟨z,G⟩],by omega,by omega,by go_num,I6.out,d2⟩,by simp[intOf];omega⟩)
     ·rw[hE] at Hp;refine Hp.mono ?_;rintro e w2 ⟨rfl,H2,X2,t2⟩;have I2:=y.next (y.l.step H2 X2 t2 (y.l.tidy.put M)) (λ_ h=>h) X2 Z;injection hR with g0 g1;subst g0 g1;have NR:=I2.o.r;clear y0 e0 e1 e2 m0 a8 m2;go_wp2_with (first
       |(refine q29 rfl _ _ rfl (w.1.size+2) rfl 0 none 0 0 none 0 0 rfl NR ?_;intro w3 R3 T3)
       |fail)
      refine bodyPost_ret (Bl Tryz.results137 rfl (qbb R3)) rfl ?_;have L3:=I2.l.own T3 (λk hk=>by have hk:k=w.1.size+2:=hk;exact⟨I2.own k (by omega) (by omega),by omega⟩);exact⟨none,0,0,none,0,0,0,rfl,λ_ h=>(by cases h),L3.done,L3.turn,L3.tab,L3.tidy⟩
    ·obtain⟨rfl,rfl⟩:Pb=P'/\some ks=r:=by
      rw[List.drop_eq_nil_of_le (by omega)] at b2;unfold Xk at b2;injection OI b2 with e1 e2;exact⟨e1,e2⟩
     have g6:¬(a2:Int)<(m1:Int):=by omega
     have NR:=I.o.r;have k0:=I.o.k.c0;have k1:=I.o.k.c1;have k2:=I.o.k.c2;go_wp2_with (first
      |(refine q29 rfl _ _ rfl (w.1.size+2) rfl (lv+1) none 0 0 K n1 c1 rfl NR ?_;intro w3 R3 T3)
      |fail)
     refine bodyPost_ret (Bl Tryz.results137 rfl (qbb R3)) rfl ?_;have L3:=I.l.own T3 (λk hk=>by have hk:k=w.1.size+2:=hk;exact⟨I.own k (by omega) (by omega),by omega⟩);have kk:=I.kids.turned T3 (λg hg h=>by have h:g=w.1.size+2:=h;have:=(I.kids.Qa g hg).1;omega);have ss:=Q8.Gn kk (by omega);have ln:=kk.len;refine⟨none,0,0,K,n1,c1,lv+1,rfl,?_,L3.done,L3.turn,L3.tab,L3.tidy⟩;exact⟨rfl,qs1 _,λu hu=>Q8.Gn (Q8.turned kk hu λg hg=>L3.not (by have:=(kk.Qa g hg).1;omega)) (by omega),rfl,kk.len,⟨by omega,by omega,by unfold maxLen;omega⟩,⟨by omega,ss.cap,ss.max⟩⟩
end
