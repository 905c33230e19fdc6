/- The code's edit: lay's walk. -/
import Derived.Test.YthkfkhejjmhomaaGreatDoorDz33
namespace Go.Proofs.YthkfkhejjmhomaaGreatDoor
open Go Go.RowKit Go.Proofs
set_option maxHeartbeats 8000000
set_option maxRecDepth 100000
section
variable {b:Nat}{w:World}{d p:Nat}{S0 S T:Nat->Prop}{D:DM}{P P':Pl}
def Qzd (r:Option (List Qk)):Int:=match r with
 |some _=>0
 |none=>6
theorem Qoj (H:Zb b w d p S0 S T D P)(hb:1<b)(ht:Tab w)(hP:P.tidy)(x:Ia)(A:Option Addr)(n c:Nat)(B:Option Addr)(m dd:Nat)(hB:U6 (Turn S w) x.N A n c B m dd)(b7:x.N.fit)(i0:x.N.size<=40)(hl:0<=x.N.lvl/\x.N.lvl<8)
  (Y:Option Addr) (k kc:Nat) (hY:∀u,Turn S w u->Spl (Turn S w) u Y k kc x.olds) (hk:k<=10) {r:Option (List Qk)} (a1:P.Tq x=some (P',r)) (i j:Int) :
  Calls Tryz.prog 191 #[tv p,.agg (Ou x.N.lvl A n c B m dd Y k kc i j).toArray] w λe w'=>∃A n c B m dd l,e=.returned (.tuple #[Px l A n c B m dd,.int .i64 (Qzd r)])/\(∀ks,r=some ks->l=x.N.lvl+1/\U6 (Turn S w') ⟨x.N.lvl+1,[],ks⟩ A n c B m dd)/\Zb b w' d p S0 S T D P'/\Turn S w w'/\Tab w'/\P'.tidy:=by
 obtain⟨N,olds,xi,xj⟩:=x;dsimp only at hB b7 i0 hl hY a1 ⊢;obtain⟨lv,d5⟩:∃lv,N.lvl=lv:=⟨_,rfl⟩;rw[d5] at hl;have i1:=(hY w (Turn.refl _ _)).len;obtain⟨P1,R,b1,hO,hN⟩:∃P1 R b1,Ld olds P (pieces N) []=some (P1,R,b1)/\Oi R P1 b1=some (P',r):=by
  unfold Pl.Tq at a1;dsimp only at a1;split at a1
  ·rename_i P1 R b1 e;exact⟨P1,R,b1,e,a1⟩
  ·cases a1
 clear a1;have g9:(pieces N).length<=40:=by
  unfold pieces parts;rw[List.length_map,List.length_range];have:6<=Iw N.lvl:=by unfold Iw;split<;>omega
  exact Nat.le_trans (Nat.div_le_div_right (show N.size+Iw N.lvl-1<=40*Iw N.lvl by omega)) (by rw[Nat.mul_div_cancel _ (by omega)];exact Nat.le_refl _)
 have g8:∀M∈pieces N,M.fit:=λM hM=>by
  unfold pieces at hM;obtain⟨q,_,rfl⟩:=List.mem_map.1 hM;exact Qdk b7 _ _
 have b4:Below w.1.size w ((((w.alloc (.cells #[.pointer (some ⟨p,0,none⟩)] 173)).alloc (.cells (Ou lv A n c B m dd Y k kc i j).toArray 274)).alloc (.cells #[.int .i64 0,.slice none 0 0,.slice none 0 0] 178)).alloc (.cells #[.int .i64 (lv+1),.slice none 0 0,.slice none 0 0] 178)):=(((Ib).alloc (by simp) _).alloc (by simp;omega) _).alloc (by simp;omega) _;have O4:Ba w ((((w.alloc (.cells #[.pointer (some ⟨p,0,none⟩)] 173)).alloc (.cells (Ou lv A n c B m dd Y k kc i j).toArray 274)).alloc (.cells #[.int .i64 0,.slice none 0 0,.slice none 0 0] 178)).alloc (.cells #[.int .i64 (lv+1),.slice none 0 0,.slice none 0 0] 178)) p (Ou lv A n c B m dd Y k kc i j) (lv+1) none 0 0:=by
  have q1:=RB.new w [.pointer (some ⟨p,0,none⟩)] 173;have q2:=RB.new (w.alloc (.cells #[.pointer (some ⟨p,0,none⟩)] 173)) (Ou lv A n c B m dd Y k kc i j) 274;have q3:=NB.new2 (w.alloc (.cells #[.pointer (some ⟨p,0,none⟩)] 173)) (.cells (Ou lv A n c B m dd Y k kc i j).toArray 274) 0 none 0 0 none 0 0 178;have q4:=NB.new2 ((w.alloc (.cells #[.pointer (some ⟨p,0,none⟩)] 173)).alloc (.cells (Ou lv A n c B m dd Y k kc i j).toArray 274)) (.cells #[.int .i64 0,.slice none 0 0,.slice none 0 0] 178) (lv+1) none 0 0 none 0 0 178;simp only[World.size_alloc] at q2 q3 q4;exact⟨((q1.below (Ib) (by simp<;>omega)).below (Ib) (by simp<;>omega)).below (Ib) (by simp<;>omega),(q2.below (Ib) (by simp<;>omega)).below (Ib) (by simp<;>omega),q3.below (Ib) (by simp<;>omega),q4⟩
 have z4:((((w.alloc (.cells #[.pointer (some ⟨p,0,none⟩)] 173)).alloc (.cells (Ou lv A n c B m dd Y k kc i j).toArray 274)).alloc (.cells #[.int .i64 0,.slice none 0 0,.slice none 0 0] 178)).alloc (.cells #[.int .i64 (lv+1),.slice none 0 0,.slice none 0 0] 178)).1.size=w.1.size+4:=by simp
 have Hp:=λ(u:World)=>Qol hB b7 (by omega) u
 rw[d5] at Hp;replace Hp:=Lib.hid Hp;have i8:IntKind.i64.wrap (lv+1)=lv+1:=IntWalk.i64_in _ (by omega);have y0:=O4.t.cell 0 rfl;have d7:=O4.x.cell 0 rfl;have d8:=O4.x.cell 1 rfl;have d9:=O4.x.cell 2 rfl;rw[d5];unfold tv;unfold Ou at b4 O4 z4 d7 d8 d9 y0 ⊢;go_enter Tryz.func191,Tryz.ntmps191
 go_wp2_with fail
 generalize ((((w.alloc (.cells #[.pointer (some ⟨p,0,none⟩)] 173)).alloc (.cells #[.int .i64 lv,.slice A n c,.slice B m dd,.slice Y k kc,.int .i64 i,.int .i64 j] 274)).alloc (.cells #[.int .i64 0,.slice none 0 0,.slice none 0 0] 178)).alloc (.cells #[.int .i64 (lv+1),.slice none 0 0,.slice none 0 0] 178))=w4 at b4 O4 z4 d7 d8 d9 y0 ⊢;refine (Hp.out w4).mono ?_;rintro e wp ⟨X,m0,mc,rfl,c7,b5⟩;have z5:=b5.size;have V:w.1.size+4<=wp.1.size:=by omega
 have bp:Below w.1.size w wp:=b4.trans (b5.mono b4.size);have L0:=(H9.start H hb ht hP).below bp;have I0:Qed b w wp wp d p S0 S T D [.int .i64 lv,.slice A n c,.slice B m dd,.slice Y k kc,.int .i64 i,.int .i64 j] (lv+1) P X m0 mc (pieces N) none 0 0 [] (grow T w wp):=by
  have O5:=O4.turned (Uk (S:=λ_=>False) b5) λ_ h=>h.elim
  exact⟨L0,O5,c7.bnl,Qo8 _ _,λg h1 h2=>Qyv h1 h2,λg hg=>by have:=c7.Zx g hg;omega,λg hg=>by (cases hg),g8⟩
 have x3:=I0.o.x.cell 3 rfl;clear O4 c7 d7 d8 d9 y0 Hp L0;go_wp2_with fail
 go_loopw [7,29] (λl q wr=>∃(a:Nat) (Pa:Pl) (T':Nat->Prop) (X:Option Addr) (m1 mc:Nat) (f:List Nd) (K:Option Addr) (n1 c1:Nat) (ks:List Qk),a<=k/\n1<=a/\f.length<=40/\q=.int .i64 (a:Int)/\l=.slice X m1 mc/\Qed b w wp wr d p S0 S T D [.int .i64 lv,.slice A n c,.slice B m dd,.slice Y k kc,.int .i64 i,.int .i64 j] (lv+1) Pa X m1 mc f K n1 c1 ks T'/\Ld (olds.drop a) Pa f ks=some (P1,R,b1)) (λ_ q _=>k-(intOf q).toNat)
 case atStart=>exact⟨0,P,_,X,m0,mc,_,none,0,0,[],Nat.zero_le _,Nat.le_refl _,g9,rfl,rfl,I0,hO⟩
 case round=>
  obtain⟨a,Pa,T',X,m1,mc,f,K,n1,c1,ks,ha,g6,d1,rfl,rfl,I,a6⟩:=hrel;by_cases d4:a<k
  ·rw[Zax (by omega)] at a6;obtain⟨g,o,As,ns,cs,Bs,ms,ds,g0,hg,b0,g1⟩:=(hY wr I.l.turn).get d4;obtain⟨⟨sN,J,nx,hd,sh⟩,hs⟩:∃s,Qaa olds a=s:=⟨_,rfl⟩;rw[hs] at a6 b0 g1;subst g0;have f0:=b0 0 _ rfl;have f1:=b0 1 _ rfl;have f2:=b0 2 _ rfl;have f3:=b0 3 _ rfl;have f4:=b0 4 _ rfl;have f5:=b0 5 _ rfl;have f6:=b0 6 _ rfl;rw[Nat.add_zero] at f0;have y0:=I.o.t.cell 0 rfl;have d6:=I.row.len
   cases f with
   |nil=>
    obtain⟨P2,Z,a7⟩:=Qg9 a6;obtain rfl:0=m1:=d6;go_wp2_with (first
     |(refine Le rfl _ _ rfl wr.1.size rfl sN.lvl As ns cs Bs ms ds J (nx:Int) hd sh rfl (Nu wr) rfl ?_;intro w1 G T1
       have y:Below wr.1.size wr w1:=((Below.refl _ _).alloc (Nat.le_refl _) zsp).trans (T1.below (λk hk=>by have:k=wr.1.size:=hk;omega) (by simp));have E:=I.below y V;have y0:=E.o.t.cell 0 rfl;have e0:=G.cell 0 rfl;have e1:=G.cell 1 rfl;have e2:=G.cell 2 rfl;have e3:=G.cell 3 rfl;have e4:=G.cell 4 rfl;have e5:=G.cell 5 rfl;have e6:=G.cell 6 rfl)
     |fail)
    have Hv:=Qb2 E.l.sys hb E.l.tab ⟨sN,J,nx,hd,sh⟩ As ns cs Bs ms ds Z;refine Hv.mono ?_;rintro e w2 ⟨rfl,H2,X2,t2⟩;have W:=E.next (E.l.step H2 X2 t2 (E.l.tidy.leave Z)) (λ_ h=>h) X2 V;clear f0 f1 f2 f3 f4 f5 f6 e0 e1 e2 e3 e4 e5 e6 y0;go_wp2_with fail
    exact⟨⟨a+1,P2,_,X,0,mc,[],K,n1,c1,ks,by omega,by omega,d1,by go_num,rfl,W,a7⟩,by simp[intOf];omega⟩
   |cons M f=>
    rw[List.length_cons] at d6;have i4:¬(m1:Int)=0:=by omega
    have i5:((m1:Int)==0)=false:=by simp;omega
    have i6:(0:Int)<(m1:Int):=by omega
    have i7:0<m1:=by omega
    cases sh with
    |true=>
     obtain⟨P2,Z,a7⟩:=Qbk (.inl rfl) a6;go_wp2_with (first
      |(refine Le rfl _ _ rfl wr.1.size rfl sN.lvl As ns cs Bs ms ds J (nx:Int) hd true rfl (Nu wr) rfl ?_;intro w1 G T1
        have y:Below wr.1.size wr w1:=((Below.refl _ _).alloc (Nat.le_refl _) zsp).trans (T1.below (λk hk=>by have:k=wr.1.size:=hk;omega) (by simp));have E:=I.below y V;have y0:=E.o.t.cell 0 rfl;have e0:=G.cell 0 rfl;have e1:=G.cell 1 rfl;have e2:=G.cell 2 rfl;have e3:=G.cell 3 rfl;have e4:=G.cell 4 rfl;have e5:=G.cell 5 rfl;have e6:=G.cell 6 rfl)
      |fail)
     have Hv:=Qb2 E.l.sys hb E.l.tab ⟨sN,J,nx,hd,true⟩ As ns cs Bs ms ds Z;refine Hv.mono ?_;rintro e w2 ⟨rfl,H2,X2,t2⟩;have W:=E.next (E.l.step H2 X2 t2 (E.l.tidy.leave Z)) (λ_ h=>h) X2 V;clear f0 f1 f2 f3 f4 f5 f6 e0 e1 e2 e3 e4 e5 e6 y0;go_wp2_with fail
     exact⟨⟨a+1,P2,_,X,m1,mc,M::f,K,n1,c1,ks,by omega,by omega,d1,by go_num,rfl,W,a7⟩,by simp[intOf];omega⟩
    |false=>
     obtain⟨fr,d0⟩:∃fr,Pa.C.fresh J=fr:=⟨_,rfl⟩
     cases fr with
     |false=>
      obtain⟨P2,Z,a7⟩:=Qbk (.inr d0) a6;go_wp2_with (first
       |(refine Le rfl _ _ rfl wr.1.size rfl sN.lvl As ns cs Bs ms ds J (nx:Int) hd false rfl (Nu wr) rfl ?_;intro w1 G T1
         have y:Below wr.1.size wr w1:=((Below.refl _ _).alloc (Nat.le_refl _) zsp).trans (T1.below (λk hk=>by have:k=wr.1.size:=hk;omega) (by simp));have E:=I.below y V;have y0:=E.o.t.cell 0 rfl;have e0:=G.cell 0 rfl;have e1:=G.cell 1 rfl;have e2:=G.cell 2 rfl;have e3:=G.cell 3 rfl;have e4:=G.cell 4 rfl;have e5:=G.cell 5 rfl;have e6:=G.cell 6 rfl)
       |fail)
      refine (Qeq E.l.sys.pool J false d0).mono ?_;rintro e _ ⟨rfl,rfl⟩;go_wp2_with fail
      have Hv:=Qb2 E.l.sys hb E.l.tab ⟨sN,J,nx,hd,false⟩ As ns cs Bs ms ds Z;refine Hv.mono ?_;rintro e w2 ⟨rfl,H2,X2,t2⟩;have W:=E.next (E.l.step H2 X2 t2 (E.l.tidy.leave Z)) (λ_ h=>h) X2 V;clear f0 f1 f2 f3 f4 f5 f6 e0 e1 e2 e3 e4 e5 e6 y0;go_wp2_with fail
      exact⟨⟨a+1,P2,_,X,m1,mc,M::f,K,n1,c1,ks,by omega,by omega,d1,by go_num,rfl,W,a7⟩,by simp[intOf];omega⟩
     |true=>
      obtain⟨hE,a7⟩:=Qha rfl d0 a6;dsimp only at hE a7;obtain⟨O,o2,Am,nm,cm,Bm,mm,dm,d3,b8,m0,a8,m2,Q⟩:=I.row.get (show 0<m1 by omega);subst d3;rw[show Kt (M::f) 0=M from rfl] at m0 Q;rw[Nat.zero_mul,Nat.add_zero] at m0 a8 m2;have g7:=Q.hn;have g5:=Q.hm;have c9:=I.fit M (List.mem_cons_self ..);go_wp2_with (first
       |(refine Le rfl _ _ rfl wr.1.size rfl sN.lvl As ns cs Bs ms ds J (nx:Int) hd false rfl (Nu wr) rfl ?_;intro w1 G T1
         have y:Below wr.1.size wr w1:=((Below.refl _ _).alloc (Nat.le_refl _) zsp).trans (T1.below (λk hk=>by have:k=wr.1.size:=hk;omega) (by simp));have E:=I.below y V;have y0:=E.o.t.cell 0 rfl;have e0:=G.cell 0 rfl;have e1:=G.cell 1 rfl;have e2:=G.cell 2 rfl;have e3:=G.cell 3 rfl;have e4:=G.cell 4 rfl;have e5:=G.cell 5 rfl;have e6:=G.cell 6 rfl)
       |fail)
      refine (Qeq E.l.sys.pool J true d0).mono ?_;rintro e _ ⟨rfl,rfl⟩;have gy:∀u:Grown w1,u.to.cell? ⟨w.1.size,0,none⟩=some (.pointer (some ⟨p,0,none⟩)):=Grown.cell y0 E.o.t.lt;have g3:∀u:Grown w1,u.to.cell? ⟨wr.1.size,3,none⟩=some (.int .i64 J):=Grown.cell e3 G.lt;have e8:∀u:Grown w1,u.to.cell? ⟨O,o2,none⟩=some (.int .i64 M.lvl):=Grown.cell ((y.cell (p:=⟨O,o2,none⟩) b8).trans m0) (by have:=y.size;show O<_;omega);have e9:∀u:Grown w1,u.to.cell? ⟨O,o2+1,none⟩=some (.slice Am nm cm):=Grown.cell ((y.cell (p:=⟨O,o2+1,none⟩) b8).trans a8) (by have:=y.size;show O<_;omega);have f7:∀u:Grown w1,u.to.cell? ⟨O,o2+2,none⟩=some (.slice Bm mm dm):=Grown.cell ((y.cell (p:=⟨O,o2+2,none⟩) b8).trans m2) (by have:=y.size;show O<_;omega);clear f0 f1 f2 f3 f4 f5 f6 e0 e1 e2 e4 e5 e6;go_wp2_with fail
      refine Oq 8 (by kernel_rfl) (by kernel_rfl) ?_;simp only[List.take_succ_cons,List.take_zero,List.drop_succ_cons,List.drop_zero];repeat (go_big_quiet_step (first|fail))
      refine wpQuiet_nil ?_;rintro _ ⟨u,rfl⟩;have Iu:=E.below u.ok V;have Hs:=Qq1 Iu.l.sys hb Iu.l.tab Iu.l.tidy J M Am nm cm Bm mm dm (Q.its.Qaf Iu.l.turn) (Q.Ic _ Iu.l.turn) (by omega) (by omega);rw[hE] at Hs;go_wp2_with fail
      refine Hs.mono ?_;rintro e w2 ⟨rfl,H2,X2,t2⟩;have W:=Iu.next (Iu.l.step H2 X2 t2 (Iu.l.tidy.set J M)) (λ_ h=>h) X2 V;have R2:=(G.below u.ok G.lt).turned X2 (Iu.l.not (by have:=I.l.turn.size;omega));have c8:w2.1[O]?=wr.1[O]?:=(X2.block O (by have:=y.size;have:=u.ok.size;omega) (I.l.not (by have:=I.Qr9 O rfl;omega))).trans ((u.ok.block O (by have:=y.size;omega)).trans (y.block O b8));have m0:=(World.cell?_of_block (a:=⟨O,o2,none⟩) c8).trans m0;have a8:=(World.cell?_of_block (a:=⟨O,o2+1,none⟩) c8).trans a8;have m2:=(World.cell?_of_block (a:=⟨O,o2+2,none⟩) c8).trans m2;have z2:O<w2.1.size:=by have:=y.size;have:=u.ok.size;have:=X2.size;omega
      clear gy g3 e8 e9 f7 c8 y0 e3;have F:∀v,Below w2.1.size w2 v->v.cell? ⟨w.1.size+1+1+1,2,none⟩=some (.slice K n1 c1)/\v.cell? ⟨O,o2,none⟩=some (.int .i64 M.lvl)/\v.cell? ⟨O,o2+1,none⟩=some (.slice Am nm cm)/\v.cell? ⟨O,o2+2,none⟩=some (.slice Bm mm dm)/\v.cell? ⟨wr.1.size,3,none⟩=some (.int .i64 J):=λv Z=>
       ⟨(W.o.k.below Z W.o.k.lt).c2,(Z.cell (p:=⟨O,o2,none⟩) z2).trans m0,(Z.cell (p:=⟨O,o2+1,none⟩) z2).trans a8,(Z.cell (p:=⟨O,o2+2,none⟩) z2).trans m2,(R2.below Z R2.lt).cell 3 rfl⟩
      have b3:∀q,Xq K=some q->wp.1.size<=q/\q<wr.1.size:=λq hq=>I.kids.Zx q hq
      have zX:=I.Qr9 O rfl;have i9:wp.1.size<=wr.1.size:=by have:=(I.l.sys.tight _ (I.own (wp.1.size-1) (by omega) (by omega))).2;omega
      have FT:∀v v',Below w2.1.size w2 v->Turn (λq=>Xq K=some q) v v'->v'.cell? ⟨w.1.size+1+1+1,2,none⟩=some (.slice K n1 c1)/\v'.cell? ⟨O,o2,none⟩=some (.int .i64 M.lvl)/\v'.cell? ⟨O,o2+1,none⟩=some (.slice Am nm cm)/\v'.cell? ⟨O,o2+2,none⟩=some (.slice Bm mm dm)/\v'.cell? ⟨wr.1.size,3,none⟩=some (.int .i64 J):=λv v' Z T=>by
       have hs:=Z.size;have e1:v'.1[w.1.size+1+1+1]?=v.1[w.1.size+1+1+1]?:=T.block _ (by have:=W.o.k.lt;omega) (λh=>by have:=(b3 _ h).1;omega);have e2:v'.1[O]?=v.1[O]?:=T.block _ (by omega) (λh=>by have:=(b3 _ h).1;omega);have e3:v'.1[wr.1.size]?=v.1[wr.1.size]?:=T.block _ (by have:=R2.lt;omega) (λh=>by have:=(b3 _ h).2;omega);obtain⟨x1,x2,x3,x4,x5⟩:=F v Z;exact⟨(World.cell?_of_block (a:=⟨_,2,none⟩) e1).trans x1,(World.cell?_of_block (a:=⟨O,o2,none⟩) e2).trans x2,(World.cell?_of_block (a:=⟨O,o2+1,none⟩) e2).trans x3,(World.cell?_of_block (a:=⟨O,o2+2,none⟩) e2).trans x4,(World.cell?_of_block (a:=⟨_,3,none⟩) e3).trans x5⟩
      clear m0 a8 m2;have HK:=λ(v:World) (Z:Below w2.1.size w2 v)=>Qk5 M c9 J Am nm cm Bm mm dm v (Q.its.Qaf (W.l.turn.then (Uk Z))) (Q.Ic _ (W.l.turn.then (Uk Z))) (by omega) (by omega)
      obtain⟨z,hz⟩:∃z,M.least=z:=⟨_,rfl⟩;rw[hz] at HK a7;unfold Px Qk.vs at HK;dsimp only at HK;replace HK:=Lib.hid HK;have b9:=Lib.hid (λ(v:World)=>(Qt5 v ⟨z,J⟩:Q7 (v.alloc (.cells #[.int .i64 z.obj,.int .i64 z.kind,.int .i64 z.off,.int .i64 J] 148)) (some ⟨v.1.size,0,none⟩) 1 1 [⟨z,J⟩]));have j7:n1<=1000:=by omega
      have j0:wp.1.size<=w2.1.size:=by have:=y.size;have:=u.ok.size;have:=X2.size;omega
      have U:Below w2.1.size w2 w2.drew:=(Below.refl _ _).drew;clear hz;go_wp2_with fail
      obtain⟨q1,q2,q3,q4,q5⟩:=F _ U;go_region_law (first
       |(rw[if_pos (by rfl)];refine Qea (base:=wp.1.size) (.tmp 70) (.tmp 77) (by rfl) (by rfl) (W.kids.below (U.alloc U.size (.cells #[.int .i64 z.obj,.int .i64 z.kind,.int .i64 z.off,.int .i64 J] 148))) (by rfl) (b9.out _) (by omega) (by have:=(U.alloc U.size (.cells #[.int .i64 z.obj,.int .i64 z.kind,.int .i64 z.off,.int .i64 J] 148)).size;omega) ?_;intro K6 c6 w6 k6 T6 b6;have bA:=U.alloc U.size (.cells #[.int .i64 z.obj,.int .i64 z.kind,.int .i64 z.off,.int .i64 J] 148);have I6:=Lib.hid (W.more V bA k6 T6 b6);have N6:=(W.o.k.below bA W.o.k.lt).turned T6 (λh=>by have:=(b3 _ h).1;omega);have f2:=N6.fz 2;have p2:=N6.c2;clear N6 k6 T6 b6)
       |(go_simp;go_at_call 238;(with_reducible refine (HK.out _ U).mono ?_);rintro e wX ⟨rfl,hX⟩;replace U:=U.trans (hX.mono U.size);clear hX q1 q2 q3 q4 q5;obtain⟨q1,q2,q3,q4,q5⟩:=F _ U;obtain⟨r1,r2,r3,r4,r5⟩:=F _ (U.alloc U.size (.cells #[.int .i64 z.obj,.int .i64 z.kind,.int .i64 z.off,.int .i64 J] 148))))
      all_goals (
       go_wp2_with fail
       rw[List.length_cons] at d1;obtain⟨o',eo,I7⟩:=I6.out.tail;rw[eo];exact⟨⟨a+1,Pa.Qch J M,_,some ⟨O,o',none⟩,m1-1,mc-1,f,K6,n1+1,c6,ks++[⟨z,J⟩],by omega,by omega,by omega,by go_num,rfl,I7,a7⟩,by simp[intOf];omega⟩)
  ·obtain⟨rfl,rfl,rfl⟩:Pa=P1/\f=R/\ks=b1:=by
    rw[List.drop_eq_nil_of_le (by omega)] at a6;unfold Ld at a6;injection Option.some.inj a6 with e1 e2;injection e2 with e2 e3;exact⟨e1,e2,e3⟩
   have d6:=I.row.len;have g4:¬(a:Int)<(k:Int):=by omega
   clear a6 hO;go_wp2_with fail
   go_loopw [86] (λq wr=>∃(a2:Nat) (Pb:Pl) (T2:Nat->Prop) (K:Option Addr) (n1 c1:Nat) (ks:List Qk),a2<=m1/\n1<=k+a2/\q=.int .i64 (a2:Int)/\Qed b w wp wr d p S0 S T D [.int .i64 lv,.slice A n c,.slice B m dd,.slice Y k kc,.int .i64 i,.int .i64 j] (lv+1) Pb X m1 mc f K n1 c1 ks T2/\Oi (f.drop a2) Pb ks=some (P',r)) (λq _=>m1-(intOf q).toNat)
   case atStart=>exact⟨0,Pa,_,K,n1,c1,ks,Nat.zero_le _,by omega,rfl,I,hN⟩
   case round=>
    clear I;obtain⟨a2,Pb,T2,K,n1,c1,ks,i3,g6,rfl,I,b2⟩:=hrel;by_cases d4:a2<m1
    ·rw[Zc0 (by omega)] at b2;obtain⟨O,o2,Am,nm,cm,Bm,mm,dm,d3,b8,m0,a8,m2,Q⟩:=I.row.get d4;have c9:=I.fit (Kt f a2) (by have:=List.mem_of_getElem? (Ku (Ns:=f) (j:=a2) (by omega));exact this);obtain⟨M,hM⟩:∃M,Kt f a2=M:=⟨_,rfl⟩;rw[hM] at b2 Q c9 m0;subst d3;have g7:=Q.hn;have g5:=Q.hm;have y0:=I.o.t.cell 0 rfl;go_wp2_with (first
      |(refine P6 rfl _ _ rfl wr.1.size rfl M.lvl Am nm cm Bm mm dm rfl (NB.new wr 0 none 0 0 none 0 0 178) ?_;intro w1 G T1
        have y:Below wr.1.size wr w1:=(Ib).trans (T1.below (λk hk=>by have:k=wr.1.size:=hk;omega) (by simp));have E:=I.below y V;have y0:=E.o.t.cell 0 rfl;have e0:=G.c0;have e1:=G.c1;have e2:=G.c2)
      |fail)
     have Hp:=Qh5 E.l.sys hb E.l.tab M Am nm cm Bm mm dm (λu hu=>⟨Q.its.Qaf (E.l.turn.then hu),Q.Ic _ (E.l.turn.then hu)⟩) (by omega) (by omega);have zw:wp.1.size<=wr.1.size:=by have:=(I.l.sys.tight _ (I.own (wp.1.size-1) (by omega) (by omega))).2;omega
     have b3:∀q,Xq K=some q->wp.1.size<=q/\q<wr.1.size:=λq hq=>I.kids.Zx q hq
     rcases Qg7 b2 with⟨hE,d2⟩|⟨hE,hR⟩
     ·rw[hE] at Hp;refine Hp.mono ?_;rintro e w2 ⟨rfl,H2,X2,t2⟩;have W:=E.next (E.l.step H2 X2 t2 (E.l.tidy.put M)) (λ_ h=>h) X2 V;have R2:=G.turned X2 (E.l.not (by omega));have zs:=y.size;have j8:=X2.size;obtain⟨J,e7⟩:∃J,Pb.Yd M=J:=⟨_,rfl⟩;rw[e7] at d2 ⊢;have F:∀v,Below w2.1.size w2 v->v.cell? ⟨w.1.size+1+1+1,2,none⟩=some (.slice K n1 c1)/\v.cell? ⟨wr.1.size,0,none⟩=some (.int .i64 M.lvl)/\v.cell? ⟨wr.1.size,1,none⟩=some (.slice Am nm cm)/\v.cell? ⟨wr.1.size,2,none⟩=some (.slice Bm mm dm):=λv Z=>
       have r:=R2.below Z R2.lt;⟨(W.o.k.below Z W.o.k.lt).c2,r.c0,r.c1,r.c2⟩
      clear y0 e0 e1 e2 m0 a8 m2 e7;have HK:=λ(v:World) (Z:Below w2.1.size w2 v)=>Qk5 M c9 J Am nm cm Bm mm dm v (Q.its.Qaf (W.l.turn.then (Uk Z))) (Q.Ic _ (W.l.turn.then (Uk Z))) (by omega) (by omega)
      obtain⟨z,hz⟩:∃z,M.least=z:=⟨_,rfl⟩;rw[hz] at HK d2;unfold Px Qk.vs at HK;dsimp only at HK;replace HK:=Lib.hid HK;have b9:=Lib.hid (λ(v:World)=>(Qt5 v ⟨z,J⟩:Q7 (v.alloc (.cells #[.int .i64 z.obj,.int .i64 z.kind,.int .i64 z.off,.int .i64 J] 148)) (some ⟨v.1.size,0,none⟩) 1 1 [⟨z,J⟩]));have i2:m1<=40:=by omega
      have U:Below w2.1.size w2 w2.drew:=(Below.refl _ _).drew;clear hz;go_wp2_with fail
      obtain⟨q1,q2,q3,q4⟩:=F _ U;go_region_law (first
       |(rw[if_pos (by rfl)];refine Qea (base:=wp.1.size) (.tmp 104) (.tmp 108) (by rfl) (by rfl) (W.kids.below (U.alloc U.size (.cells #[.int .i64 z.obj,.int .i64 z.kind,.int .i64 z.off,.int .i64 J] 148))) (by rfl) (b9.out _) (by omega) (by have:=(U.alloc U.size (.cells #[.int .i64 z.obj,.int .i64 z.kind,.int .i64 z.off,.int .i64 J] 148)).size;omega) ?_;intro K6 c6 w6 k6 T6 b6;have bA:=U.alloc U.size (.cells #[.int .i64 z.obj,.int .i64 z.kind,.int .i64 z.off,.int .i64 J] 148);have I6:=Lib.hid (W.more V bA k6 T6 b6);have N6:=(W.o.k.below bA W.o.k.lt).turned T6 (λh=>by have:=(b3 _ h).1;omega);have f2:=N6.fz 2;have p2:=N6.c2;clear N6 k6 T6 b6)
       |(go_simp;go_at_call 238;(with_reducible refine (HK.out _ U).mono ?_);rintro e wX ⟨rfl,hX⟩;replace U:=U.trans (hX.mono U.size);clear hX q1 q2 q3 q4;obtain⟨q1,q2,q3,q4⟩:=F _ U;obtain⟨r1,r2,r3,r4⟩:=F _ (U.alloc U.size (.cells #[.int .i64 z.obj,.int .i64 z.kind,.int .i64 z.off,.int .i64 J] 148))))
      all_goals (
       go_wp2_with fail
       exact⟨⟨a2+1,Pb.Xb M,_,K6,n1+1,c6,ks++[⟨z,J⟩],by omega,by omega,by go_num,I6.out,d2⟩,by simp[intOf];omega⟩)
     ·rw[hE] at Hp;refine Hp.mono ?_;rintro e w2 ⟨rfl,H2,X2,t2⟩;have W:=E.next (E.l.step H2 X2 t2 (E.l.tidy.put M)) (λ_ h=>h) X2 V;injection hR with f8 f9;subst f8 f9;have NR:=W.o.r;clear y0 e0 e1 e2 m0 a8 m2;go_wp2_with (first
       |(refine P6 rfl _ _ rfl (w.1.size+2) rfl 0 none 0 0 none 0 0 rfl NR ?_;intro w3 R3 T3)
       |fail)
      refine bodyPost_ret (Md Tryz.results191 rfl (Qfl R3)) rfl ?_;have L3:=W.l.own T3 (λk hk=>by have hk:k=w.1.size+2:=hk;exact⟨W.own k (by omega) (by omega),by omega⟩);exact⟨none,0,0,none,0,0,0,rfl,λ_ h=>(by cases h),L3.done,L3.turn,L3.tab,L3.tidy⟩
    ·obtain⟨rfl,rfl⟩:Pb=P'/\some ks=r:=by
      rw[List.drop_eq_nil_of_le (by omega)] at b2;unfold Oi at b2;injection Option.some.inj b2 with e1 e2;exact⟨e1,e2⟩
     have g4:¬(a2:Int)<(m1:Int):=by omega
     have NR:=I.o.r;have k0:=I.o.k.c0;have k1:=I.o.k.c1;have k2:=I.o.k.c2;go_wp2_with (first
      |(refine P6 rfl _ _ rfl (w.1.size+2) rfl (lv+1) none 0 0 K n1 c1 rfl NR ?_;intro w3 R3 T3)
      |fail)
     refine bodyPost_ret (Md Tryz.results191 rfl (Qfl R3)) rfl ?_;have L3:=I.l.own T3 (λk hk=>by have hk:k=w.1.size+2:=hk;exact⟨I.own k (by omega) (by omega),by omega⟩);have kk:=I.kids.turned T3 (λg hg h=>by have h:g=w.1.size+2:=h;have:=(I.kids.Zx g hg).1;omega);have ss:=Qr.Hr kk (by omega);have ln:=kk.len;refine⟨none,0,0,K,n1,c1,lv+1,rfl,?_,L3.done,L3.turn,L3.tab,L3.tidy⟩;exact⟨rfl,Qt0 _,λu hu=>Qr.Hr (Qr.turned kk hu λg hg=>L3.not (by have:=(kk.Zx g hg).1;omega)) (by omega),rfl,kk.len,⟨by omega,by omega,by unfold maxLen;omega⟩,⟨by omega,ss.cap,ss.max⟩⟩
end
