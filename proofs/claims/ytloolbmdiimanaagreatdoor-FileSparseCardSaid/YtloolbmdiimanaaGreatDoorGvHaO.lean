/- The code's edit: lay's walk. -/
import Derived.Test.YtloolbmdiimanaaGreatDoorGv31
namespace Go.Proofs.YtloolbmdiimanaaGreatDoor
open Go Go.RowKit Go.Proofs Tryz
set_option maxHeartbeats 8000000
set_option maxRecDepth 100000
section
variable {b:Nat}{w:WD}{d p:Nat}{S0 S T:NP}{D:DM}{P P':Pl}
def Td (r:Option (List Qk)):Int:=match r with
 |some _=>0
 |none=>6
theorem qli (H:Qh b w d p S0 S T D P)(hb:1<b)(ht:Tab w)(hP:P.tidy)(x:Nl)(A:OA)(n c:Nat)(B:OA)(m dd:Nat)(hB:Je (Turn S w) x.N A n c B m dd)(b0:x.N.fit)(g7:x.N.size<=40)(hl:0<=x.N.lvl/\x.N.lvl<8)
  (Y:OA) (k kc:Nat) (hY:∀u,Turn S w u->Vo (Turn S w) u Y k kc x.olds) (hk:k<=10) {r:Option (List Qk)} (a0:P.Yo x=some (P',r)) (i j:Int) :
  Calls prog 147 #[tv p,.agg (Xf x.N.lvl A n c B m dd Y k kc i j).toArray] w λe w'=>∃A n c B m dd l,e=.returned (.tuple #[Xx l A n c B m dd,.int .i64 (Td r)])/\(∀ks,r=some ks->l=x.N.lvl+1/\Je (Turn S w') ⟨x.N.lvl+1,[],ks⟩ A n c B m dd)/\Qh b w' d p S0 S T D P'/\Turn S w w'/\Tab w'/\P'.tidy:=by
 obtain⟨N,olds,xi,xj⟩:=x;dsimp only at hB b0 g7 hl hY a0 ⊢;obtain⟨lv,d2⟩:∃lv,N.lvl=lv:=⟨_,rfl⟩;rw[d2] at hl;have g8:=(hY w (Turn.refl _ _)).len;obtain⟨P1,R,a6,hO,hN⟩:∃P1 R a6,Ut olds P (pieces N) []=some (P1,R,a6)/\Jl R P1 a6=some (P',r):=by
  unfold Pl.Yo at a0;dsimp only at a0;split at a0
  ·rename_i P1 R a6 e;exact⟨P1,R,a6,e,a0⟩
  ·cases a0
 clear a0;have g6:(pieces N).length<=40:=by
  unfold pieces parts;rw[AF,List.length_range];have:6<=Qo N.lvl:=by unfold Qo;split<;>omega
  exact AZ (Nat.div_le_div_right (show N.size+Qo N.lvl-1<=40*Qo N.lvl by omega)) (by rw[Nat.mul_div_cancel _ (by omega)];exact AE _)
 have g5:∀M∈pieces N,M.fit:=λM hM=>by
  unfold pieces at hM;obtain⟨q,_,rfl⟩:=List.mem_map.1 hM;exact q7x b0 _ _
 have b4:Below w.1.size w ((((w.alloc (.cells #[.pointer (some ⟨p,0,none⟩)] 188)).alloc (.cells (Xf lv A n c B m dd Y k kc i j).toArray 228)).alloc (.cells #[.int .i64 0,.slice none 0 0,.slice none 0 0] 193)).alloc (.cells #[.int .i64 (lv+1),.slice none 0 0,.slice none 0 0] 193)):=(((Ql).alloc (by simp) _).alloc (by simp;omega) _).alloc (by simp;omega) _;have O4:Rq w ((((w.alloc (.cells #[.pointer (some ⟨p,0,none⟩)] 188)).alloc (.cells (Xf lv A n c B m dd Y k kc i j).toArray 228)).alloc (.cells #[.int .i64 0,.slice none 0 0,.slice none 0 0] 193)).alloc (.cells #[.int .i64 (lv+1),.slice none 0 0,.slice none 0 0] 193)) p (Xf lv A n c B m dd Y k kc i j) (lv+1) none 0 0:=by
  have q1:=RB.new w [.pointer (some ⟨p,0,none⟩)] 188;have q2:=RB.new (w.alloc (.cells #[.pointer (some ⟨p,0,none⟩)] 188)) (Xf lv A n c B m dd Y k kc i j) 228;have q3:=NB.new2 (w.alloc (.cells #[.pointer (some ⟨p,0,none⟩)] 188)) (.cells (Xf lv A n c B m dd Y k kc i j).toArray 228) 0 none 0 0 none 0 0 193;have q4:=NB.new2 ((w.alloc (.cells #[.pointer (some ⟨p,0,none⟩)] 188)).alloc (.cells (Xf lv A n c B m dd Y k kc i j).toArray 228)) (.cells #[.int .i64 0,.slice none 0 0,.slice none 0 0] 193) (lv+1) none 0 0 none 0 0 193;simp only[BH] at q2 q3 q4;exact⟨((q1.below (Ql) (by simp<;>omega)).below (Ql) (by simp<;>omega)).below (Ql) (by simp<;>omega),(q2.below (Ql) (by simp<;>omega)).below (Ql) (by simp<;>omega),q3.below (Ql) (by simp<;>omega),q4⟩
 have z4:((((w.alloc (.cells #[.pointer (some ⟨p,0,none⟩)] 188)).alloc (.cells (Xf lv A n c B m dd Y k kc i j).toArray 228)).alloc (.cells #[.int .i64 0,.slice none 0 0,.slice none 0 0] 193)).alloc (.cells #[.int .i64 (lv+1),.slice none 0 0,.slice none 0 0] 193)).1.size=w.1.size+4:=by simp
 have Hp:=λ(u:WD)=>qil hB b0 (by omega) u
 rw[d2] at Hp;replace Hp:=HI Hp;have i5:IntKind.i64.wrap (lv+1)=lv+1:=IntWalk.i64_in _ (by omega);have y0:=O4.t.cell 0 rfl;have d4:=O4.x.cell 0 rfl;have d5:=O4.x.cell 1 rfl;have d6:=O4.x.cell 2 rfl;rw[d2];unfold tv;unfold Xf at b4 O4 z4 d4 d5 d6 y0 ⊢;go_enter func147,ntmps147
 go_wp2_with fail
 generalize ((((w.alloc (.cells #[.pointer (some ⟨p,0,none⟩)] 188)).alloc (.cells #[.int .i64 lv,.slice A n c,.slice B m dd,.slice Y k kc,.int .i64 i,.int .i64 j] 228)).alloc (.cells #[.int .i64 0,.slice none 0 0,.slice none 0 0] 193)).alloc (.cells #[.int .i64 (lv+1),.slice none 0 0,.slice none 0 0] 193))=w4 at b4 O4 z4 d4 d5 d6 y0 ⊢;refine (Hp.out w4).mono ?_;rintro e wp ⟨X,m0,mc,rfl,b3,b5⟩;have z5:=b5.size;have W:w.1.size+4<=wp.1.size:=by omega
 have bp:Below w.1.size w wp:=b4.trans (b5.mono b4.size);have L0:=(Aw.start H hb ht hP).below bp;have I0:U1 b w wp wp d p S0 S T D [.int .i64 lv,.slice A n c,.slice B m dd,.slice Y k kc,.int .i64 i,.int .i64 j] (lv+1) P X m0 mc (pieces N) none 0 0 [] (grow T w wp):=by
  have O5:=O4.turned (Zb (S:=λ_=>False) b5) λ_ h=>h.elim
  exact⟨L0,O5,b3.bnl,qka _ _,λg h1 h2=>qu6 h1 h2,λg hg=>by have:=b3.Qc g hg;omega,λg hg=>by (cases hg),g5⟩
 have x3:=I0.o.x.cell 3 rfl;clear O4 b3 d4 d5 d6 y0 Hp L0;go_wp2_with fail
 go_loopw [7,29] (λl q wr=>∃(a:Nat) (Pa:Pl) (T':NP) (X:OA) (m1 mc:Nat) (f:List Nd) (K:OA) (n1 c1:Nat) (ks:List Qk),a<=k/\n1<=a/\f.length<=40/\q=.int .i64 (a:Int)/\l=.slice X m1 mc/\U1 b w wp wr d p S0 S T D [.int .i64 lv,.slice A n c,.slice B m dd,.slice Y k kc,.int .i64 i,.int .i64 j] (lv+1) Pa X m1 mc f K n1 c1 ks T'/\Ut (olds.drop a) Pa f ks=some (P1,R,a6)) (λ_ q _=>k-(intOf q).toNat)
 case atStart=>exact⟨0,P,_,X,m0,mc,_,none,0,0,[],AW _,AE _,g6,rfl,rfl,I0,hO⟩
 case round=>
  obtain⟨a,Pa,T',X,m1,mc,f,K,n1,c1,ks,ha,g1,b9,rfl,rfl,I,a1⟩:=hrel;by_cases d1:a<k
  ·rw[qu7 (by omega)] at a1;obtain⟨g,o,As,ns,cs,Bs,ms,ds,f7,hg,a5,f8⟩:=(hY wr I.l.turn).get d1;obtain⟨⟨sN,J,nx,hd,sh⟩,hs⟩:∃s,Y1 olds a=s:=⟨_,rfl⟩;rw[hs] at a1 a5 f8;subst f7;have f0:=a5 0 _ rfl;have f1:=a5 1 _ rfl;have f2:=a5 2 _ rfl;have f3:=a5 3 _ rfl;have f4:=a5 4 _ rfl;have f5:=a5 5 _ rfl;have f6:=a5 6 _ rfl;rw[Nat.add_zero] at f0;have y0:=I.o.t.cell 0 rfl;have d3:=I.row.len
   cases f with
   |nil=>
    obtain⟨P2,hv,a3⟩:=qau a1;obtain rfl:0=m1:=d3;go_wp2_with (first
     |(refine Nz rfl _ _ rfl wr.1.size rfl sN.lvl As ns cs Bs ms ds J (nx:Int) hd sh rfl (Ii wr) rfl ?_;intro w1 G T1
       have y:Below wr.1.size wr w1:=((AI _ _).alloc (AE _) Ui).trans (T1.below (λk hk=>by have:k=wr.1.size:=hk;omega) (by simp));have E:=I.below y W;have y0:=E.o.t.cell 0 rfl;have e0:=G.cell 0 rfl;have e1:=G.cell 1 rfl;have e2:=G.cell 2 rfl;have e3:=G.cell 3 rfl;have e4:=G.cell 4 rfl;have e5:=G.cell 5 rfl;have e6:=G.cell 6 rfl)
     |fail)
    have Hv:=q5h E.l.sys hb E.l.tab ⟨sN,J,nx,hd,sh⟩ As ns cs Bs ms ds hv;refine Hv.mono ?_;rintro e w2 ⟨rfl,H2,X2,t2⟩;have Z:=E.next (E.l.step H2 X2 t2 (E.l.tidy.leave hv)) (λ_ h=>h) X2 W;clear f0 f1 f2 f3 f4 f5 f6 e0 e1 e2 e3 e4 e5 e6 y0;go_wp2_with fail
    exact⟨⟨a+1,P2,_,X,0,mc,[],K,n1,c1,ks,by omega,by omega,b9,by go_num,rfl,Z,a3⟩,by simp[intOf];omega⟩
   |cons M f=>
    rw[AX] at d3;have i1:¬(m1:Int)=0:=by omega
    have i2:((m1:Int)==0)=false:=by simp;omega
    have i3:(0:Int)<(m1:Int):=by omega
    have i4:0<m1:=by omega
    cases sh with
    |true=>
     obtain⟨P2,hv,a3⟩:=q48 (.inl rfl) a1;go_wp2_with (first
      |(refine Nz rfl _ _ rfl wr.1.size rfl sN.lvl As ns cs Bs ms ds J (nx:Int) hd true rfl (Ii wr) rfl ?_;intro w1 G T1
        have y:Below wr.1.size wr w1:=((AI _ _).alloc (AE _) Ui).trans (T1.below (λk hk=>by have:k=wr.1.size:=hk;omega) (by simp));have E:=I.below y W;have y0:=E.o.t.cell 0 rfl;have e0:=G.cell 0 rfl;have e1:=G.cell 1 rfl;have e2:=G.cell 2 rfl;have e3:=G.cell 3 rfl;have e4:=G.cell 4 rfl;have e5:=G.cell 5 rfl;have e6:=G.cell 6 rfl)
      |fail)
     have Hv:=q5h E.l.sys hb E.l.tab ⟨sN,J,nx,hd,true⟩ As ns cs Bs ms ds hv;refine Hv.mono ?_;rintro e w2 ⟨rfl,H2,X2,t2⟩;have Z:=E.next (E.l.step H2 X2 t2 (E.l.tidy.leave hv)) (λ_ h=>h) X2 W;clear f0 f1 f2 f3 f4 f5 f6 e0 e1 e2 e3 e4 e5 e6 y0;go_wp2_with fail
     exact⟨⟨a+1,P2,_,X,m1,mc,M::f,K,n1,c1,ks,by omega,by omega,b9,by go_num,rfl,Z,a3⟩,by simp[intOf];omega⟩
    |false=>
     obtain⟨fr,b8⟩:∃fr,Pa.C.fresh J=fr:=⟨_,rfl⟩
     cases fr with
     |false=>
      obtain⟨P2,hv,a3⟩:=q48 (.inr b8) a1;go_wp2_with (first
       |(refine Nz rfl _ _ rfl wr.1.size rfl sN.lvl As ns cs Bs ms ds J (nx:Int) hd false rfl (Ii wr) rfl ?_;intro w1 G T1
         have y:Below wr.1.size wr w1:=((AI _ _).alloc (AE _) Ui).trans (T1.below (λk hk=>by have:k=wr.1.size:=hk;omega) (by simp));have E:=I.below y W;have y0:=E.o.t.cell 0 rfl;have e0:=G.cell 0 rfl;have e1:=G.cell 1 rfl;have e2:=G.cell 2 rfl;have e3:=G.cell 3 rfl;have e4:=G.cell 4 rfl;have e5:=G.cell 5 rfl;have e6:=G.cell 6 rfl)
       |fail)
      refine (q7s E.l.sys.pool J false b8).mono ?_;rintro e _ ⟨rfl,rfl⟩;go_wp2_with fail
      have Hv:=q5h E.l.sys hb E.l.tab ⟨sN,J,nx,hd,false⟩ As ns cs Bs ms ds hv;refine Hv.mono ?_;rintro e w2 ⟨rfl,H2,X2,t2⟩;have Z:=E.next (E.l.step H2 X2 t2 (E.l.tidy.leave hv)) (λ_ h=>h) X2 W;clear f0 f1 f2 f3 f4 f5 f6 e0 e1 e2 e3 e4 e5 e6 y0;go_wp2_with fail
      exact⟨⟨a+1,P2,_,X,m1,mc,M::f,K,n1,c1,ks,by omega,by omega,b9,by go_num,rfl,Z,a3⟩,by simp[intOf];omega⟩
     |true=>
      obtain⟨hE,a3⟩:=qav rfl b8 a1;dsimp only at hE a3;obtain⟨O,o2,Am,nm,cm,Bm,mm,dm,d0,b1,m0,a4,m2,Q⟩:=I.row.get (show 0<m1 by omega);subst d0;rw[show U7 (M::f) 0=M from rfl] at m0 Q;rw[Nat.zero_mul,Nat.add_zero] at m0 a4 m2;have g4:=Q.hn;have g0:=Q.hm;have b7:=I.fit M (AP ..);go_wp2_with (first
       |(refine Nz rfl _ _ rfl wr.1.size rfl sN.lvl As ns cs Bs ms ds J (nx:Int) hd false rfl (Ii wr) rfl ?_;intro w1 G T1
         have y:Below wr.1.size wr w1:=((AI _ _).alloc (AE _) Ui).trans (T1.below (λk hk=>by have:k=wr.1.size:=hk;omega) (by simp));have E:=I.below y W;have y0:=E.o.t.cell 0 rfl;have e0:=G.cell 0 rfl;have e1:=G.cell 1 rfl;have e2:=G.cell 2 rfl;have e3:=G.cell 3 rfl;have e4:=G.cell 4 rfl;have e5:=G.cell 5 rfl;have e6:=G.cell 6 rfl)
       |fail)
      refine (q7s E.l.sys.pool J true b8).mono ?_;rintro e _ ⟨rfl,rfl⟩;have gy:∀u:Grown w1,u.to.cell? ⟨w.1.size,0,none⟩=some (.pointer (some ⟨p,0,none⟩)):=Grown.cell y0 E.o.t.lt;have g3:∀u:Grown w1,u.to.cell? ⟨wr.1.size,3,none⟩=some (.int .i64 J):=Grown.cell e3 G.lt;have d8:∀u:Grown w1,u.to.cell? ⟨O,o2,none⟩=some (.int .i64 M.lvl):=Grown.cell ((y.cell (p:=⟨O,o2,none⟩) b1).trans m0) (by have:=y.size;show O<_;omega);have d9:∀u:Grown w1,u.to.cell? ⟨O,o2+1,none⟩=some (.slice Am nm cm):=Grown.cell ((y.cell (p:=⟨O,o2+1,none⟩) b1).trans a4) (by have:=y.size;show O<_;omega);have e7:∀u:Grown w1,u.to.cell? ⟨O,o2+2,none⟩=some (.slice Bm mm dm):=Grown.cell ((y.cell (p:=⟨O,o2+2,none⟩) b1).trans m2) (by have:=y.size;show O<_;omega);clear f0 f1 f2 f3 f4 f5 f6 e0 e1 e2 e4 e5 e6;go_wp2_with fail
      refine q27 8 (by kernel_rfl) (by kernel_rfl) ?_;simp only[List.take_succ_cons,List.take_zero,List.drop_succ_cons,List.drop_zero];repeat (go_big_quiet_step (first|fail))
      refine wpQuiet_nil ?_;rintro _ ⟨u,rfl⟩;have Iu:=E.below u.ok W;have Hs:=qmr Iu.l.sys hb Iu.l.tab Iu.l.tidy J M Am nm cm Bm mm dm (Q.its.Y6 Iu.l.turn) (Q.Bg _ Iu.l.turn) (by omega) (by omega);rw[hE] at Hs;go_wp2_with fail
      refine Hs.mono ?_;rintro e w2 ⟨rfl,H2,X2,t2⟩;have Z:=Iu.next (Iu.l.step H2 X2 t2 (Iu.l.tidy.set J M)) (λ_ h=>h) X2 W;have R2:=(G.below u.ok G.lt).turned X2 (Iu.l.not (by have:=I.l.turn.size;omega));have b6:w2.1[O]?=wr.1[O]?:=(X2.block O (by have:=y.size;have:=u.ok.size;omega) (I.l.not (by have:=I.Na O rfl;omega))).trans ((u.ok.block O (by have:=y.size;omega)).trans (y.block O b1));have m0:=(AY (a:=⟨O,o2,none⟩) b6).trans m0;have a4:=(AY (a:=⟨O,o2+1,none⟩) b6).trans a4;have m2:=(AY (a:=⟨O,o2+2,none⟩) b6).trans m2;have z2:O<w2.1.size:=by have:=y.size;have:=u.ok.size;have:=X2.size;omega
      clear gy g3 d8 d9 e7 b6 y0 e3;have F:∀v,Below w2.1.size w2 v->v.cell? ⟨w.1.size+1+1+1,2,none⟩=some (.slice K n1 c1)/\v.cell? ⟨O,o2,none⟩=some (.int .i64 M.lvl)/\v.cell? ⟨O,o2+1,none⟩=some (.slice Am nm cm)/\v.cell? ⟨O,o2+2,none⟩=some (.slice Bm mm dm)/\v.cell? ⟨wr.1.size,3,none⟩=some (.int .i64 J):=λv hv=>
       ⟨(Z.o.k.below hv Z.o.k.lt).c2,(hv.cell (p:=⟨O,o2,none⟩) z2).trans m0,(hv.cell (p:=⟨O,o2+1,none⟩) z2).trans a4,(hv.cell (p:=⟨O,o2+2,none⟩) z2).trans m2,(R2.below hv R2.lt).cell 3 rfl⟩
      have a8:∀q,q01 K=some q->wp.1.size<=q/\q<wr.1.size:=λq hq=>I.kids.Qc q hq
      have zX:=I.Na O rfl;have i6:wp.1.size<=wr.1.size:=by have:=(I.l.sys.tight _ (I.own (wp.1.size-1) (by omega) (by omega))).2;omega
      have FT:∀v v',Below w2.1.size w2 v->Turn (λq=>q01 K=some q) v v'->v'.cell? ⟨w.1.size+1+1+1,2,none⟩=some (.slice K n1 c1)/\v'.cell? ⟨O,o2,none⟩=some (.int .i64 M.lvl)/\v'.cell? ⟨O,o2+1,none⟩=some (.slice Am nm cm)/\v'.cell? ⟨O,o2+2,none⟩=some (.slice Bm mm dm)/\v'.cell? ⟨wr.1.size,3,none⟩=some (.int .i64 J):=λv v' hv T=>by
       have hs:=hv.size;have e1:v'.1[w.1.size+1+1+1]?=v.1[w.1.size+1+1+1]?:=T.block _ (by have:=Z.o.k.lt;omega) (λh=>by have:=(a8 _ h).1;omega);have e2:v'.1[O]?=v.1[O]?:=T.block _ (by omega) (λh=>by have:=(a8 _ h).1;omega);have e3:v'.1[wr.1.size]?=v.1[wr.1.size]?:=T.block _ (by have:=R2.lt;omega) (λh=>by have:=(a8 _ h).2;omega);obtain⟨x1,x2,x3,x4,x5⟩:=F v hv;exact⟨(AY (a:=⟨_,2,none⟩) e1).trans x1,(AY (a:=⟨O,o2,none⟩) e2).trans x2,(AY (a:=⟨O,o2+1,none⟩) e2).trans x3,(AY (a:=⟨O,o2+2,none⟩) e2).trans x4,(AY (a:=⟨_,3,none⟩) e3).trans x5⟩
      clear m0 a4 m2;have HK:=λ(v:WD) (hv:Below w2.1.size w2 v)=>qgb M b7 J Am nm cm Bm mm dm v (Q.its.Y6 (Z.l.turn.then (Zb hv))) (Q.Bg _ (Z.l.turn.then (Zb hv))) (by omega) (by omega)
      obtain⟨z,hz⟩:∃z,M.least=z:=⟨_,rfl⟩;rw[hz] at HK a3;unfold Xx Qk.vs at HK;dsimp only at HK;replace HK:=HI HK;have b2:=HI (λ(v:WD)=>(qqa v ⟨z,J⟩:Zn (v.alloc (.cells #[.int .i64 z.obj,.int .i64 z.kind,.int .i64 z.off,.int .i64 J] 159)) (some ⟨v.1.size,0,none⟩) 1 1 [⟨z,J⟩]));have i8:n1<=1000:=by omega
      have i7:wp.1.size<=w2.1.size:=by have:=y.size;have:=u.ok.size;have:=X2.size;omega
      have U:Below w2.1.size w2 w2.drew:=(AI _ _).drew;clear hz;go_wp2_with fail
      obtain⟨q1,q2,q3,q4,q5⟩:=F _ U;go_region_law (first
       |(rw[AA (by rfl)];refine q70 (base:=wp.1.size) (.tmp 70) (.tmp 77) (by rfl) (by rfl) (Z.kids.below (U.alloc U.size (.cells #[.int .i64 z.obj,.int .i64 z.kind,.int .i64 z.off,.int .i64 J] 159))) (by rfl) (b2.out _) (by omega) (by have:=(U.alloc U.size (.cells #[.int .i64 z.obj,.int .i64 z.kind,.int .i64 z.off,.int .i64 J] 159)).size;omega) ?_;intro K6 c6 w6 k6 T6 a9;have bA:=U.alloc U.size (.cells #[.int .i64 z.obj,.int .i64 z.kind,.int .i64 z.off,.int .i64 J] 159);have I6:=HI (Z.more W bA k6 T6 a9);have N6:=(Z.o.k.below bA Z.o.k.lt).turned T6 (λh=>by have:=(a8 _ h).1;omega);have f2:=N6.fz 2;have p2:=N6.c2;clear N6 k6 T6 a9)
       |(go_simp;go_at_call 172;(with_reducible refine (HK.out _ U).mono ?_);rintro e wX ⟨rfl,hX⟩;replace U:=U.trans (hX.mono U.size);clear hX q1 q2 q3 q4 q5;obtain⟨q1,q2,q3,q4,q5⟩:=F _ U;obtain⟨r1,r2,r3,r4,r5⟩:=F _ (U.alloc U.size (.cells #[.int .i64 z.obj,.int .i64 z.kind,.int .i64 z.off,.int .i64 J] 159))))
      all_goals (
       go_wp2_with fail
       rw[AX] at b9;obtain⟨o',eo,I7⟩:=I6.out.tail;rw[eo];exact⟨⟨a+1,Pa.Kz J M,_,some ⟨O,o',none⟩,m1-1,mc-1,f,K6,n1+1,c6,ks++[⟨z,J⟩],by omega,by omega,by omega,by go_num,rfl,I7,a3⟩,by simp[intOf];omega⟩)
  ·obtain⟨rfl,rfl,rfl⟩:Pa=P1/\f=R/\ks=a6:=by
    rw[List.drop_eq_nil_of_le (by omega)] at a1;unfold Ut at a1;injection OI a1 with e1 e2;injection e2 with e2 e3;exact⟨e1,e2,e3⟩
   have d3:=I.row.len;have f9:¬(a:Int)<(k:Int):=by omega
   clear a1 hO;go_wp2_with fail
   go_loopw [86] (λq wr=>∃(a2:Nat) (Pb:Pl) (T2:NP) (K:OA) (n1 c1:Nat) (ks:List Qk),a2<=m1/\n1<=k+a2/\q=.int .i64 (a2:Int)/\U1 b w wp wr d p S0 S T D [.int .i64 lv,.slice A n c,.slice B m dd,.slice Y k kc,.int .i64 i,.int .i64 j] (lv+1) Pb X m1 mc f K n1 c1 ks T2/\Jl (f.drop a2) Pb ks=some (P',r)) (λq _=>m1-(intOf q).toNat)
   case atStart=>exact⟨0,Pa,_,K,n1,c1,ks,AW _,by omega,rfl,I,hN⟩
   case round=>
    clear I;obtain⟨a2,Pb,T2,K,n1,c1,ks,i0,g1,rfl,I,a7⟩:=hrel;by_cases d1:a2<m1
    ·rw[qxd (by omega)] at a7;obtain⟨O,o2,Am,nm,cm,Bm,mm,dm,d0,b1,m0,a4,m2,Q⟩:=I.row.get d1;have b7:=I.fit (U7 f a2) (by have:=List.mem_of_getElem? (q55 (Ns:=f) (j:=a2) (by omega));exact this);obtain⟨M,hM⟩:∃M,U7 f a2=M:=⟨_,rfl⟩;rw[hM] at a7 Q b7 m0;subst d0;have g4:=Q.hn;have g0:=Q.hm;have y0:=I.o.t.cell 0 rfl;go_wp2_with (first
      |(refine q22 rfl _ _ rfl wr.1.size rfl M.lvl Am nm cm Bm mm dm rfl (NB.new wr 0 none 0 0 none 0 0 193) ?_;intro w1 G T1
        have y:Below wr.1.size wr w1:=(Ql).trans (T1.below (λk hk=>by have:k=wr.1.size:=hk;omega) (by simp));have E:=I.below y W;have y0:=E.o.t.cell 0 rfl;have e0:=G.c0;have e1:=G.c1;have e2:=G.c2)
      |fail)
     have Hp:=qck E.l.sys hb E.l.tab M Am nm cm Bm mm dm (λu hu=>⟨Q.its.Y6 (E.l.turn.then hu),Q.Bg _ (E.l.turn.then hu)⟩) (by omega) (by omega);have zw:wp.1.size<=wr.1.size:=by have:=(I.l.sys.tight _ (I.own (wp.1.size-1) (by omega) (by omega))).2;omega
     have a8:∀q,q01 K=some q->wp.1.size<=q/\q<wr.1.size:=λq hq=>I.kids.Qc q hq
     rcases qaw a7 with⟨hE,c9⟩|⟨hE,hR⟩
     ·rw[hE] at Hp;refine Hp.mono ?_;rintro e w2 ⟨rfl,H2,X2,t2⟩;have Z:=E.next (E.l.step H2 X2 t2 (E.l.tidy.put M)) (λ_ h=>h) X2 W;have R2:=G.turned X2 (E.l.not (by omega));have zs:=y.size;have i9:=X2.size;obtain⟨J,d7⟩:∃J,Pb.Yz M=J:=⟨_,rfl⟩;rw[d7] at c9 ⊢;have F:∀v,Below w2.1.size w2 v->v.cell? ⟨w.1.size+1+1+1,2,none⟩=some (.slice K n1 c1)/\v.cell? ⟨wr.1.size,0,none⟩=some (.int .i64 M.lvl)/\v.cell? ⟨wr.1.size,1,none⟩=some (.slice Am nm cm)/\v.cell? ⟨wr.1.size,2,none⟩=some (.slice Bm mm dm):=λv hv=>
       have r:=R2.below hv R2.lt;⟨(Z.o.k.below hv Z.o.k.lt).c2,r.c0,r.c1,r.c2⟩
      clear y0 e0 e1 e2 m0 a4 m2 d7;have HK:=λ(v:WD) (hv:Below w2.1.size w2 v)=>qgb M b7 J Am nm cm Bm mm dm v (Q.its.Y6 (Z.l.turn.then (Zb hv))) (Q.Bg _ (Z.l.turn.then (Zb hv))) (by omega) (by omega)
      obtain⟨z,hz⟩:∃z,M.least=z:=⟨_,rfl⟩;rw[hz] at HK c9;unfold Xx Qk.vs at HK;dsimp only at HK;replace HK:=HI HK;have b2:=HI (λ(v:WD)=>(qqa v ⟨z,J⟩:Zn (v.alloc (.cells #[.int .i64 z.obj,.int .i64 z.kind,.int .i64 z.off,.int .i64 J] 159)) (some ⟨v.1.size,0,none⟩) 1 1 [⟨z,J⟩]));have g9:m1<=40:=by omega
      have U:Below w2.1.size w2 w2.drew:=(AI _ _).drew;clear hz;go_wp2_with fail
      obtain⟨q1,q2,q3,q4⟩:=F _ U;go_region_law (first
       |(rw[AA (by rfl)];refine q70 (base:=wp.1.size) (.tmp 104) (.tmp 108) (by rfl) (by rfl) (Z.kids.below (U.alloc U.size (.cells #[.int .i64 z.obj,.int .i64 z.kind,.int .i64 z.off,.int .i64 J] 159))) (by rfl) (b2.out _) (by omega) (by have:=(U.alloc U.size (.cells #[.int .i64 z.obj,.int .i64 z.kind,.int .i64 z.off,.int .i64 J] 159)).size;omega) ?_;intro K6 c6 w6 k6 T6 a9;have bA:=U.alloc U.size (.cells #[.int .i64 z.obj,.int .i64 z.kind,.int .i64 z.off,.int .i64 J] 159);have I6:=HI (Z.more W bA k6 T6 a9);have N6:=(Z.o.k.below bA Z.o.k.lt).turned T6 (λh=>by have:=(a8 _ h).1;omega);have f2:=N6.fz 2;have p2:=N6.c2;clear N6 k6 T6 a9)
       |(go_simp;go_at_call 172;(with_reducible refine (HK.out _ U).mono ?_);rintro e wX ⟨rfl,hX⟩;replace U:=U.trans (hX.mono U.size);clear hX q1 q2 q3 q4;obtain⟨q1,q2,q3,q4⟩:=F _ U;obtain⟨r1,r2,r3,r4⟩:=F _ (U.alloc U.size (.cells #[.int .i64 z.obj,.int .i64 z.kind,.int .i64 z.off,.int .i64 J] 159))))
      all_goals (
       go_wp2_with fail
       exact⟨⟨a2+1,Pb.Jg M,_,K6,n1+1,c6,ks++[⟨z,J⟩],by omega,by omega,by go_num,I6.out,c9⟩,by simp[intOf];omega⟩)
     ·rw[hE] at Hp;refine Hp.mono ?_;rintro e w2 ⟨rfl,H2,X2,t2⟩;have Z:=E.next (E.l.step H2 X2 t2 (E.l.tidy.put M)) (λ_ h=>h) X2 W;injection hR with e8 e9;subst e8 e9;have NR:=Z.o.r;clear y0 e0 e1 e2 m0 a4 m2;go_wp2_with (first
       |(refine q22 rfl _ _ rfl (w.1.size+2) rfl 0 none 0 0 none 0 0 rfl NR ?_;intro w3 R3 T3)
       |fail)
      refine bodyPost_ret (Ag Tryz.results147 rfl (qan R3)) rfl ?_;have L3:=Z.l.own T3 (λk hk=>by have hk:k=w.1.size+2:=hk;exact⟨Z.own k (by omega) (by omega),by omega⟩);exact⟨none,0,0,none,0,0,0,rfl,λ_ h=>(by cases h),L3.done,L3.turn,L3.tab,L3.tidy⟩
    ·obtain⟨rfl,rfl⟩:Pb=P'/\some ks=r:=by
      rw[List.drop_eq_nil_of_le (by omega)] at a7;unfold Jl at a7;injection OI a7 with e1 e2;exact⟨e1,e2⟩
     have f9:¬(a2:Int)<(m1:Int):=by omega
     have NR:=I.o.r;have k0:=I.o.k.c0;have k1:=I.o.k.c1;have k2:=I.o.k.c2;go_wp2_with (first
      |(refine q22 rfl _ _ rfl (w.1.size+2) rfl (lv+1) none 0 0 K n1 c1 rfl NR ?_;intro w3 R3 T3)
      |fail)
     refine bodyPost_ret (Ag Tryz.results147 rfl (qan R3)) rfl ?_;have L3:=I.l.own T3 (λk hk=>by have hk:k=w.1.size+2:=hk;exact⟨I.own k (by omega) (by omega),by omega⟩);have kk:=I.kids.turned T3 (λg hg h=>by have h:g=w.1.size+2:=h;have:=(I.kids.Qc g hg).1;omega);have ss:=Qz.Um kk (by omega);have ln:=kk.len;refine⟨none,0,0,K,n1,c1,lv+1,rfl,?_,L3.done,L3.turn,L3.tab,L3.tidy⟩;exact⟨rfl,qpx _,λu hu=>Qz.Um (Qz.turned kk hu λg hg=>L3.not (by have:=(kk.Qc g hg).1;omega)) (by omega),rfl,kk.len,⟨by omega,by omega,by unfold maxLen;omega⟩,⟨by omega,ss.cap,ss.max⟩⟩
end
