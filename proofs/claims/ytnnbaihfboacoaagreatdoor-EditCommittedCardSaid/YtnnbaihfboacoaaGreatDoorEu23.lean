/- The code's pool: load -/
import Derived.Test.YtnnbaihfboacoaaGreatDoorEu22
namespace Go.Proofs.YtnnbaihfboacoaaGreatDoor
open Go Go.RowKit Go.Proofs
set_option maxHeartbeats 8000000
set_option maxRecDepth 100000
section
def Hd.same (a b:Hd):Bool:=a.kind==b.kind&&(a.addr==b.addr&&(a.count==b.count&&(a.level==b.level&&a.gen==b.gen)))
theorem Hd.same_iff (a b:Hd):a.same b=true↔a=b:=by
 unfold Hd.same;simp only[Bool.and_eq_true,beq_iff_eq];constructor
 ·rintro⟨h1,h2,f,u,y⟩
  cases a;cases b;simp_all
 ·rintro rfl;simp
theorem qsu (d:Nat)(a b:Hd)(w:World):(Op.equalIn (d+2) 150 a.v b.v).run Tryz.prog w=.ok (a.same b) w:=by
 unfold Hd.v;rw[run_equalIn_agg w (d+1) 150 _ _ (by kernel_rfl) (by kernel_rfl)];unfold Program.fieldsOf;rw[Tryz.underlying150];simp[go_sem,Tryz.underlying3];unfold Hd.same;by_cases h1:a.kind=b.kind
 ·by_cases h2:a.addr=b.addr
  ·by_cases f:a.count=b.count
   ·by_cases u:a.level=b.level
    ·by_cases y:a.gen=b.gen
     ·simp[h1,h2,f,u,y]
     ·simp[h1,h2,f,u,y]
    ·simp[h1,h2,f,u]
   ·simp[h1,h2,f]
  ·simp[h1,h2]
 ·simp[h1]
theorem qxq (a b:Hd)(r:Bool)(h:a.same b=r)(w:World):(binOp .neq 150 (.agg #[.int .i64 a.kind,.int .i64 a.addr,.int .i64 a.count,.int .i64 a.level,.int .i64 a.gen]) (.agg #[.int .i64 b.kind,.int .i64 b.addr,.int .i64 b.count,.int .i64 b.level,.int .i64 b.gen])).run Tryz.prog w=.ok (.bool (!r)) w:=by
 rw[run_neq_struct];have:=qsu 9998 a b w;unfold Hd.v at this;rw[this,h];rfl
theorem qxr (f:BinOp)(x y:Operand)(xs ys:Array Value)(w:World):(eqGuard f 150 x y (.agg xs) (.agg ys)).run Tryz.prog w=.ok () w:=
 run_eqGuard_agg w f 150 x y xs ys (by kernel_rfl)
theorem qjl {x:List UInt8}{a:Nat}{g:Int}:Kt x a g=(okB x&&(Yq x).same ⟨2,(a:Int),0,0,g⟩):=by
 cases f:okB x
 ·unfold Kt Td;rw[f];rfl
 ·rw[Bool.true_and,Bool.eq_iff_iff,Hd.same_iff];unfold Kt Td;rw[f,Bool.true_and,Bool.and_eq_true];constructor
  ·rintro⟨h1,h2⟩;obtain⟨u,y⟩:=of_decide_eq_true h1;obtain⟨A,B,D⟩:=of_decide_eq_true h2
   cases E:Yq x;rw[E] at u y A B D;simp_all
  ·intro h;rw[h];exact⟨decide_eq_true ⟨rfl,rfl⟩,decide_eq_true ⟨rfl,rfl,rfl⟩⟩
def mkP (a b:Value):Sem Value:=Instr.makeSlice 168 a b
theorem qsv (a b:Value):Instr.makeSlice 168 a b=mkP a b:=rfl
def Qab (n:Nat)(w:World):World:=w.alloc (.cells (madeCells #[.slice none 0 0] (n*1)) 31)
theorem qw7 (n:Nat)(hn:n<=1000)(w:World):(mkP (.int .i64 (n:Int)) (.int .i64 (n:Int))).run Tryz.prog w=.ok (.slice (some ⟨w.1.size,0,none⟩) n n) (Qab n w):=by
 obtain⟨i,A,u,f,y⟩:=info_parts (show (Tryz.prog.info? 31).map (λi=>(i.zero,i.size,i.bytes))=some (some (.slice none 0 0),1,24) by kernel_rfl);have h:=run_makeSlice (P:=Tryz.prog) w 168 31 i _ Tryz.underlying168 A u .i64 .i64 n n (by omega) (by omega) (by rw[f,Int.toNat_natCast];omega) (by rw[y];omega) (by omega);rw[f] at h;exact h
theorem qsw (n:Nat)(w:World):(Qab n w).1[w.1.size]?=some (.cells (madeCells #[.slice none 0 0] (n*1)) 31 (0,0)):=heap_alloc_new w _
def BR (w:World)(b n j:Nat)(u:Nat->List UInt8):Prop:=∃cur:Array Value,w.1[b]?=some (.cells cur 31 (0,0))/\cur.size=n/\∀i,i<j->∃A m c,cur[i]?=some (.slice A m c)/\Sl w A m c (u i)/\∀f,A=some f->f.block≠b
theorem BR.lt {w:World}{b n j:Nat}{ls:Nat->List UInt8}(H:BR w b n j ls):b<w.1.size:=by
 obtain⟨cur,h,_⟩:=H;exact Wi h
theorem BR.below {w w':World}{b n j:Nat}{ls:Nat->List UInt8}(H:BR w b n j ls)(hb:Below w.1.size w w'):BR w' b n j ls:=by
 obtain⟨cur,h,h2,u⟩:=H;refine⟨cur,(hb.block b (Wi h)).trans h,h2,λi y=>?_⟩;obtain⟨A,m,c,e,B,f⟩:=u i y;exact⟨A,m,c,e,B.below hb,f⟩
theorem BR.at_ {w:World}{b n j:Nat}{ls:Nat->List UInt8}(H:BR w b n j ls){i:Nat}(hi:i<n):(∃v,w.cell? ⟨b,i,none⟩=some v)/\w.frozen? ⟨b,i,none⟩=false:=by
 obtain⟨cur,h,h2,_⟩:=H;refine⟨⟨cur[i],?_⟩,by unfold World.frozen?;rw[h];simp⟩;rw[cell_of_row _ _ _ _ _ _ h,Array.getElem?_eq_getElem (by omega)]
theorem BR.Vr {w:World}{b n j:Nat}{ls:Nat->List UInt8}(H:BR w b n j ls)(hj:j<n){A:Option Addr}{m c:Nat}(hs:Sl w A m c (ls j))(hA:∀f,A=some f->f.block≠b):BR (w.setCell ⟨b,j,none⟩ (.slice A m c)) b n (j+1) ls:=by
 obtain⟨cur,h,h2,F⟩:=H;have T:Turn (λk=>k=b) w (w.setCell ⟨b,j,none⟩ (.slice A m c)):=Ez (a:=⟨b,j,none⟩) _ rfl;refine⟨_,heap_setCell_same w b j cur _ _ h,by simp[h2],λi I=>?_⟩;by_cases e:i=j
 ·subst e;exact⟨A,m,c,by simp[h2,hj],q9z hs T λf e=>hA f e,hA⟩
 ·obtain⟨B,G,D,E,y,u⟩:=F i (by omega);exact⟨B,G,D,by rw[Array.getElem?_setIfInBounds_ne (Ne.symm e)];exact E,q9z y T λf e=>u f e,u⟩
theorem BR.parts {w:World}{b n:Nat}{ls:Nat->List UInt8}(H:BR w b n n ls)(hn:n<=1000):Parts w (some ⟨b,0,none⟩) n n ((List.range n).map ls):=by
 have u:=H.lt;obtain⟨cur,h,h2,B⟩:=H;refine⟨by simp,Nat.le_refl _,by unfold maxLen;omega,λj l f=>?_⟩;have y:j<n:=by have:=(List.getElem?_eq_some_iff.1 f).1;simpa using this
 rw[List.getElem?_map,List.getElem?_range y] at f;obtain rfl:ls j=l:=by simpa using f
 obtain⟨A,m,c,e,D,_⟩:=B j y;refine⟨_,A,m,c,rfl,u,?_,D⟩;rw[show (⟨b,0,none⟩:Addr).add j=⟨b,j,none⟩ by simp[Addr.add];exact λh=>h.symm,cell_of_row _ _ _ _ _ _ h];exact e
theorem qdv {D:DM}(f:D.off=false){s:Nat}(u:s<D.n):D.Yu (s:Int)=D.newest s/\D.Ym (s:Int)=0:=by
 unfold DM.Yu DM.Ym;have h:0<=(s:Int)/\(s:Int)<(D.n:Int):=by omega
 rw[f];simp only[Bool.false_eq_true,if_false];rw[if_pos h,if_pos h,Int.toNat_natCast];exact⟨rfl,rfl⟩
attribute [local go_sem ↓] q1n qsv
theorem qol {w:World}{d:Nat}{S0:Nat->Prop}{D:DM}(L:Y9 w d S0 D)(f2:D.off=false)(S:Sp)(c8:S.may=true)(b6:S.Qb=(D.n:Int))(ht:Tab w) :
  Calls Tryz.prog 58 #[.pointer (some ⟨d,0,none⟩),.agg S.vs.toArray] w λe w'=>
   ((((∀i,i<Qe D.n->Kt (D.newest (Qo D.n S.gen+i)) (Qo D.n S.gen+i) S.gen=true)/\Xf (D.n:Int) (mtB D.newest D.n S.gen)=0)/\∃p,e=.returned (.tuple #[.pointer (some ⟨p,0,none⟩),.int .i64 0])/\Yt w' p 0 (λk=>w.1.size<=k) (Me D.newest D.n S.gen)/\w.1.size<=p)\/
    (¬((∀i,i<Qe D.n->Kt (D.newest (Qo D.n S.gen+i)) (Qo D.n S.gen+i) S.gen=true)/\Xf (D.n:Int) (mtB D.newest D.n S.gen)=0)/\∃E,E≠0/\e=.returned (.tuple #[.pointer none,.int .i64 E])))/\Below w.1.size w w':=by
 have b8:=L.Qb;unfold Qb at b8;have a8:=(q12 c8).1;have hg:Kv S.gen:=⟨a8.1,a8.2.1⟩;obtain⟨g,a2⟩:∃g,S.gen=g:=⟨_,rfl⟩;rw[a2] at hg ⊢;have d3:=λi hi=>q2x b8.1 b8.2 g (i:=i) hi
 obtain⟨F,Q⟩:∃m,Qe D.n=m:=⟨_,rfl⟩;have f4:F<=18:=by unfold Qe at Q;omega
 obtain⟨a,ha⟩:∃a,Qo D.n g=a:=⟨_,rfl⟩;have hA:=qfs S D.n b6 b8.2 ⟨by rw[a2];have:=hg.1;omega,by rw[a2];have:=hg.2;omega⟩;rw[a2,ha,Q] at hA;rw[ha,Q] at d3;have hB:mtB D.newest D.n g=(List.range F).map λi=>(D.newest (a+i)).drop 20:=by unfold mtB;rw[Q,ha]
 have hC:Me D.newest D.n g=Vu D.n (mtB D.newest D.n g):=rfl;rw[hC,hB,ha,Q];generalize hG:((∀i,i<F->Kt (D.newest (a+i)) (a+i) g=true)/\Xf (D.n:Int) ((List.range F).map λi=>(D.newest (a+i)).drop 20)=0)=G;have HG:=Lib.hid hG;have HA:=Lib.hid hA;have e8:=Lib.hid d3;have e2:=λw' (H:SB w' w.1.size S)=>H.ld
 have q1:=λw' (H:SB w' w.1.size S)=>H.c1
 have q0:=λw' (H:SB w' w.1.size S)=>H.c0
 rw[b6] at q1;rw[a2] at q0;have g7:=Lib.hid e2;have Q0:=Lib.hid q0;have Q1:=Lib.hid q1;have X1:=SB.new w S 98;have b1:Below w.1.size w (w.alloc (.cells S.vs.toArray 98)):=Qm;have i0:=ht.1;have L1:=L.tight.below b1;have t1:=ht.below b1 ht.1;have e4:=X1.ld;have f1:=qw7 F (by omega);clear hG hA d3 a8 hg b6 c8 Q ha e2 q0 q1 a2 L ht hB hC;go_enter Tryz.func58,Tryz.ntmps58
 go_wp2_with fail
 generalize w.alloc (.cells S.vs.toArray 98)=w1 at b1 L1 t1 X1 e4 ⊢;refine (HA.out w1).mono ?_;rintro e w2 ⟨rfl,b2⟩;have L2:=L1.below b2;have t2:=t1.below b2 t1.1;have X2:=X1.below b2 X1.lt;have B2:=b1.trans (b2.mono b1.size);clear e4 L1 t1 X1 b1 b2;have b3:Below w2.1.size w2 (Qab F w2):=Qm;have R3:BR (Qab F w2) w2.1.size F 0 (λi=>(D.newest (a+i)).drop 20):=⟨_,qsw F w2,by rw[size_madeCells,Nat.mul_one],λi hi=>absurd hi (Nat.not_lt_zero _)⟩;go_wp2_with fail
 have L3:=L2.below b3;have t3:=t2.below b3 t2.1;have X3:=X2.below b3 X2.lt;have B3:=B2.trans (b3.mono B2.size);have f3:w.1.size<w2.1.size:=X2.lt;generalize Qab F w2=w3 at R3 L3 t3 X3 B3 ⊢;obtain⟨bb,e0⟩:∃b,w2.1.size=b:=⟨_,rfl⟩;rw[e0] at R3 f3 ⊢;clear L2 t2 X2 B2 b3 e0 f1;go_loopw [9,10,11,12,13,14,23] (λ_ _ _ _ _ _ i wr=>∃j:Nat,j<=F/\i=.int .i64 (j:Int)/\(∀q,q<j->Kt (D.newest (a+q)) (a+q) g=true)/\BR wr bb F j (λi=>(D.newest (a+i)).drop 20)/\Y9 wr d (λk=>S0 k/\k<w.1.size) D/\Tab wr/\SB wr w.1.size S/\Below w.1.size w wr) (λ_ _ _ _ _ _ i _=>F-(intOf i).toNat)
 case atStart=>exact⟨0,by omega,rfl,λq hq=>absurd hq (Nat.not_lt_zero _),R3,L3,t3,X3,B3⟩
 case round=>
  clear R3 L3 t3 X3 B3;obtain⟨j,hj,rfl,c7,R,L,t,X,B⟩:=hrel;have c6:=Lib.hid c7;clear c7;by_cases b0:j<F
  ·have e3:(j:Int)<(F:Int):=by omega
   obtain⟨_,i2,_,i4⟩:=e8.out j b0;obtain⟨s,hs⟩:∃s,a+j=s:=⟨_,rfl⟩;rw[hs] at i2 i4;have g9:(a:Int)+(j:Int)=(s:Int):=by omega
   obtain⟨r1,r2⟩:=qdv f2 i4;obtain⟨x,hx⟩:∃x,D.newest s=x:=⟨_,rfl⟩;rw[hx] at r1;obtain⟨_,_,_,_,_,L'⟩:=L;have d5:=q9g L' (s:Int);rw[r1,r2] at d5;have L:Y9 wr d (λk=>S0 k/\k<w.1.size) D:=⟨_,_,_,_,_,L'⟩;have d0:=Lib.hid d5;have Hs:=Lib.hid hs;have Hx:=Lib.hid hx;clear d5 r1 r2 hs hx L'
   cases b7:okB x
   ·have e5:Kt (D.newest (a+j)) (a+j) g=false:=by rw[Hs.out,Hx.out,qjl,b7];rfl
    have c9:=Lib.hid (show ¬G by rw[<-HG.out];exact λh=>by have:=h.1 j b0;rw[e5] at this;cases this);obtain⟨o1,o2,o3⟩:=qik b7;clear e5;go_wp2_with (first
     |(go_at_call 56;refine d0.out.mono ?_;rintro e w4 ⟨A4,n4,rfl,s4,_,I,_⟩;have t4:=t.below I t.1)
     |(go_at_call 97;have hO:=q5v A4 n4 n4 x w4 s4 t4;unfold q21 at hO;rw[o1,o2,o3] at hO;refine hO.mono ?_;rintro e f ⟨A5,n5,c5,rfl,K,b5⟩)
     |(refine q43 rfl (.tmp 12) (.tmp 37) rfl f.1.size rfl Hd.zero _ rfl (HB.zero f _) (by simp) ?_;intro y J a7 T6;have O:Below f.1.size f y:=(Qm).trans (a7 _ (Nat.le_refl _));have A:Below wr.1.size wr y:=I.trans ((b5.trans (O.mono b5.size)).mono I.size))
     |fail)
    have B6:=B.trans (A.mono B.size);go_quiet (fail)
    generalize e6:World.drewN y _=w7;have B7:Below w.1.size w w7:=by rw[<-e6];exact⟨B6.os,B6.tape,B6.output,B6.size,B6.block⟩
    clear e6;go_wp2;go_ret2;exact⟨.inr ⟨c9.out,5,by omega,rfl⟩,B7⟩
   ·obtain⟨o1,o2,o3⟩:=q78 b7;obtain⟨H,hH⟩:∃H,Yq x=H:=⟨_,rfl⟩;have o1:Yq x=H:=hH;obtain⟨r,hr⟩:∃r,H.same ⟨2,(s:Int),0,0,g⟩=r:=⟨_,rfl⟩;have e1:Kt (D.newest (a+j)) (a+j) g=r:=by rw[Hs.out,Hx.out,qjl,b7,hH,hr];rfl
    have g6:=qxq H ⟨2,(s:Int),0,0,g⟩ r hr;have f9:=qxr;have q0:=Q0.out wr X;have zX:=X.lt;have d8:=Lib.hid e1;clear e1 hr hH
    cases r
    ·have c9:=Lib.hid (show ¬G by rw[<-HG.out];exact λh=>by have:=h.1 j b0;rw[d8.out] at this;cases this);go_wp2_with (first
      |(go_at_call 56;refine d0.out.mono ?_;rintro e w4 ⟨A4,n4,rfl,s4,_,I,_⟩;have t4:=t.below I t.1)
      |(go_at_call 97;have hO:=q5v A4 n4 n4 x w4 s4 t4;unfold q21 at hO;rw[o1,o2,o3] at hO;refine hO.mono ?_;rintro e f ⟨A5,n5,c5,rfl,K,b5⟩)
      |(refine q43 rfl (.tmp 12) (.tmp 37) rfl f.1.size rfl H _ rfl (HB.zero f _) (by simp) ?_;intro y J a7 T6;have O:Below f.1.size f y:=(Qm).trans (a7 _ (Nat.le_refl _));have A:Below wr.1.size wr y:=I.trans ((b5.trans (O.mono b5.size)).mono I.size))
      |fail)
     have b9:=(A.cell (p:=⟨w.1.size,0,none⟩) zX).trans q0;have d6:w.1.size<y.1.size:=Nat.lt_of_lt_of_le zX A.size;have zH:f.1.size<y.1.size:=by obtain⟨_,h⟩:=J;exact Wi h
     have B6:=B.trans (A.mono B.size);have U:=J.at_ 0;have W:=J.at_ 1;have Y:=J.at_ 2;have Z:=J.at_ 3;have a1:=J.at_ 4;simp only[Yp,Hd.Ea] at U W Y Z a1;have g0:∀u:Grown y,u.to.cell? ⟨w.1.size,0,none⟩=some (.int .i64 g):=Grown.cell b9 d6;have g1:∀u:Grown y,u.to.cell? ⟨f.1.size,0,none⟩=some (.int .i64 H.kind):=Grown.cell U zH;have g2:∀u:Grown y,u.to.cell? ⟨f.1.size,3,none⟩=some (.int .i64 H.level):=Grown.cell W zH;have g3:∀u:Grown y,u.to.cell? ⟨f.1.size,1,none⟩=some (.int .i64 H.addr):=Grown.cell Y zH;have g4:∀u:Grown y,u.to.cell? ⟨f.1.size,2,none⟩=some (.int .i64 H.count):=Grown.cell Z zH;have g5:∀u:Grown y,u.to.cell? ⟨f.1.size,4,none⟩=some (.int .i64 H.gen):=Grown.cell a1 zH;refine Yc (by kernel_rfl) (by kernel_rfl) ?_;repeat (go_big_quiet_step (first
      |(go_at_call 85;exact Calls.grown (q6q _ g _))
      |fail))
     refine wpQuiet_nil ?_;rintro _ ⟨u,rfl⟩;have B7:=B6.trans (u.ok.mono B6.size);go_wp2;go_ret2;exact⟨.inr ⟨c9.out,5,by omega,rfl⟩,B7⟩
    ·go_wp2_with (first
      |(go_at_call 56;refine d0.out.mono ?_;rintro e w4 ⟨A4,n4,rfl,s4,_,I,_⟩;have t4:=t.below I t.1)
      |(go_at_call 97;have hO:=q5v A4 n4 n4 x w4 s4 t4;unfold q21 at hO;rw[o1,o2,o3] at hO;refine hO.mono ?_;rintro e f ⟨A5,n5,c5,rfl,K,b5⟩)
      |(refine q43 rfl (.tmp 12) (.tmp 37) rfl f.1.size rfl H _ rfl (HB.zero f _) (by simp) ?_;intro y J a7 T6;have O:Below f.1.size f y:=(Qm).trans (a7 _ (Nat.le_refl _));have A:Below wr.1.size wr y:=I.trans ((b5.trans (O.mono b5.size)).mono I.size))
      |fail)
     have b9:=(A.cell (p:=⟨w.1.size,0,none⟩) zX).trans q0;have d6:w.1.size<y.1.size:=Nat.lt_of_lt_of_le zX A.size;have zH:f.1.size<y.1.size:=by obtain⟨_,h⟩:=J;exact Wi h
     have U:=J.at_ 0;have W:=J.at_ 1;have Y:=J.at_ 2;have Z:=J.at_ 3;have a1:=J.at_ 4;simp only[Yp,Hd.Ea] at U W Y Z a1;have g0:∀u:Grown y,u.to.cell? ⟨w.1.size,0,none⟩=some (.int .i64 g):=Grown.cell b9 d6;have g1:∀u:Grown y,u.to.cell? ⟨f.1.size,0,none⟩=some (.int .i64 H.kind):=Grown.cell U zH;have g2:∀u:Grown y,u.to.cell? ⟨f.1.size,3,none⟩=some (.int .i64 H.level):=Grown.cell W zH;have g3:∀u:Grown y,u.to.cell? ⟨f.1.size,1,none⟩=some (.int .i64 H.addr):=Grown.cell Y zH;have g4:∀u:Grown y,u.to.cell? ⟨f.1.size,2,none⟩=some (.int .i64 H.count):=Grown.cell Z zH;have g5:∀u:Grown y,u.to.cell? ⟨f.1.size,4,none⟩=some (.int .i64 H.gen):=Grown.cell a1 zH;refine Yc (by kernel_rfl) (by kernel_rfl) ?_;repeat (go_big_quiet_step (first
      |(go_at_call 85;exact Calls.grown (q6q _ g _))
      |fail))
     refine wpQuiet_nil ?_;rintro _ ⟨u,rfl⟩;have M:Below wr.1.size wr u.to:=A.trans (u.ok.mono A.size);have B7:=B.trans (M.mono B.size);have R7:=R.below M;have s7:Sl u.to A5 n5 c5 ((D.newest (a+j)).drop 20):=by rw[Hs.out,Hx.out,<-o2];exact (o2▸K.sl.below O).below u.ok
     have d9:∀ad,A5=some ad->ad.block≠bb:=λad e=>by have h1:=(K.block ad e).1;have h2:=R.lt;have h3:=I.size;omega
     obtain⟨⟨v7,i1⟩,f7⟩:=R7.at_ b0;have R8:=R7.Vr b0 s7 d9;have L7:=L.below M;have t7:=t.below M t.1;have X7:=X.below M X.lt;have g8:bb<u.to.1.size:=R7.lt;have a6:Turn (λk=>k=bb) u.to (u.to.setCell ⟨bb,j,none⟩ (.slice A5 n5 c5)):=Ez (a:=⟨bb,j,none⟩) _ rfl;have B8:=B7.trans (a6.below (B:=w.1.size) (λk hk=>by omega) (by omega));have L8:=L7.keep λk hk hs=>a6.block k hk λe=>by have:=hs.2;omega
     have t8:=t7.turned a6 (by omega);have X8:=X7.block (a6.block _ X7.lt (by omega));clear R L t X B R7 L7 t7 X7 B7 s7 d9 g0 g1 g2 g3 g4 g5 U W Y Z a1 q0 b9 A M a6;go_wp2;refine⟨⟨j+1,by omega,by go_num,λq hq=>?_,R8,L8,t8,X8,B8⟩,by simp[intOf];omega⟩;by_cases e:q=j
     ·rw[e];exact d8.out
     ·exact c6.out q (by omega)
  ·have f0:j=F:=by omega
   subst f0;have q1:=Q1.out wr X;have P:=R.parts (by omega);have d4:=qoi (D.n:Int) _ _ _ _ P;obtain⟨LE,d2⟩:∃x,Xf (D.n:Int) ((List.range j).map λi=>(D.newest (a+i)).drop 20)=x:=⟨_,rfl⟩;obtain⟨LC,d1⟩:∃x,Vu D.n ((List.range j).map λi=>(D.newest (a+i)).drop 20)=x:=⟨_,rfl⟩;rw[Int.toNat_natCast,d2,d1] at d4;have d7:=Lib.hid d2;have e7:=Lib.hid d1;have e3:¬(j:Int)<(j:Int):=by omega
   have e9:=Lib.hid d4;clear d2 d1 d4;go_wp2_with fail
   refine e9.out.mono ?_;rintro e w4 ⟨⟨h0,p,rfl,C4,hp⟩|⟨h0,rfl⟩,I⟩
   ·have hY:=Lib.hid (show G by rw[<-HG.out];exact⟨c6.out,d7.out.trans h0⟩);clear h0;go_wp2;go_ret2;have:=B.size;exact⟨.inl ⟨hY.out,p,rfl,by rw[e7.out];exact C4.mono λk hk=>by omega,by omega⟩,B.trans (I.mono B.size)⟩
   ·have hN:=Lib.hid (show ¬G by rw[<-HG.out];exact λh=>h0 (d7.out.symm.trans h.2));have H0:=Lib.hid h0;clear h0;go_wp2;go_ret2;exact⟨.inr ⟨hN.out,LE,H0.out,rfl⟩,B.trans (I.mono B.size)⟩
end
section
def Wu (d:Nat)(S:Sp)(f u y A:Value)(m:Nat):List Value:=.pointer (some ⟨d,0,none⟩)::(S.vs++[f,u,y,A,.map (some m)])
theorem qon (d:Nat)(S:Sp)(f u y A:Value)(m:Nat):(Wu d S f u y A m).length=41:=by unfold Wu;rw[List.length_cons,List.length_append,S.Zj];rfl
theorem qjo (d:Nat)(S:Sp)(f u y A:Value)(m k:Nat):(Wu d S f u y A m)[36+k]?=[f,u,y,A,.map (some m)][k]?:=by
 unfold Wu;rw[show 36+k=(35+k)+1 by omega,List.getElem?_cons_succ,List.getElem?_append_right (by rw[S.Zj];omega),S.Zj,Nat.add_sub_cancel_left]
theorem qsy (d:Nat)(S:Sp)(u y A B:Value)(m:Nat):PH (Wu d S u y A B m).toArray d m S:=by
 refine⟨by rw[List.size_toArray,qon],rfl,λj x f=>?_,?_⟩
 ·have D:=(List.getElem?_eq_some_iff.1 f).1;rw[List.getElem?_toArray,Nat.add_comm];unfold Wu;rw[List.getElem?_cons_succ,List.getElem?_append_left D];exact f
 ·rw[List.getElem?_toArray];exact qjo d S u y A B m 4
def bdP (parts:Array (Nat × Value)):Sem Value:=Instr.build 103 parts
theorem qsz (parts:Array (Nat × Value)):Instr.build 103 parts=bdP parts:=rfl
def ldC (p:Value):Sem Value:=Instr.loadAt 100 p
theorem qt0 (p:Value):Instr.loadAt 100 p=ldC p:=rfl
theorem qw8 (d:Nat)(S:Sp)(u y A B:Value)(m:Nat)(w:World):(bdP #[(0,.pointer (some ⟨d,0,none⟩)),(1,.agg S.vs.toArray),(2,.agg #[u,y,A,B]),(3,.map (some m))]).run Tryz.prog w=.ok (.agg (Wu d S u y A B m).toArray) w:=by
 unfold Wu Sp.vs;obtain⟨a,b,c,E,e,f,g,h,D⟩:=ql1 S.len;rw[D];show (Instr.build 103 _).run Tryz.prog w=_;kernel_rfl
theorem Qca {f:Nat->List UInt8}{n:Nat}:Eb f true n=4:=by unfold Eb;rw[if_pos rfl]
theorem qv9 {f:Nat->List UInt8}{n:Nat}(h:¬(Fg (f 0) (f 1)=0/\(Gq f).Qb=(n:Int))):Eb f false n=27:=by unfold Eb;rw[if_neg (by decide),if_pos h]
theorem Qcb {f:Nat->List UInt8}{n:Nat}(h:Fg (f 0) (f 1)=0/\(Gq f).Qb=(n:Int))(h2:¬((∀i,i<Qe n->Kt (f (Qo n (Gq f).gen+i)) (Qo n (Gq f).gen+i) (Gq f).gen=true)/\Xf (n:Int) (mtB f n (Gq f).gen)=0)):Eb f false n=5:=by unfold Eb;rw[if_neg (by decide),if_neg (λu=>u h),if_pos h2]
theorem Qb9 {f:Nat->List UInt8}{n:Nat}(h:Fg (f 0) (f 1)=0/\(Gq f).Qb=(n:Int))(h2:(∀i,i<Qe n->Kt (f (Qo n (Gq f).gen+i)) (Qo n (Gq f).gen+i) (Gq f).gen=true)/\Xf (n:Int) (mtB f n (Gq f).gen)=0):Eb f false n=0:=by unfold Eb;rw[if_neg (by decide),if_neg (λu=>u h),if_neg (λu=>u h2)]
theorem Qcs (a b:List UInt8):Fg a b=0\/Fg a b=27:=by unfold Fg;split;exact .inr rfl;exact .inl rfl
def Pl.Va (f:Nat->List UInt8)(n:Nat):Pl:=⟨Gq f,Me f n (Gq f).gen,λ_=>none⟩
attribute [local go_sem ↓] q1n q3f qsz qt0
theorem qm2 {w:World}{d:Nat}{S0:Nat->Prop}{D:DM}(L0:Y9 w d S0 D)(ht:Tab w)(d8:(Gq D.newest).gen<1099511627775) :
  Calls Tryz.prog 25 #[.pointer (some ⟨d,0,none⟩)] w λe y=>
   ((Eb D.newest D.off D.n=0/\∃p,e=.returned (.tuple #[.pointer (some ⟨p,0,none⟩),.int .i64 0])/\(∀T:Nat->Prop,(∀k,w.1.size<=k->T k)->Pool y p d (λk=>w.1.size<=k) T (Pl.Va D.newest D.n))/\w.1.size<=p)\/
    (Eb D.newest D.off D.n≠0/\e=.returned (.tuple #[.pointer none,.int .i64 (Eb D.newest D.off D.n)])))/\Below w.1.size w y:=by
 have e1:=L0.Qb;unfold Qb at e1;have L:=L0.tight;have b9:=ht.1;obtain⟨_,_,_,_,_,Ly⟩:=L;have U:=qye Ly;have f2:=qbf;have e7:=Lib.hid d8;clear L0 d8
 cases H:D.off
 ·rw[H] at U;have L:Y9 w d _ D:=⟨_,_,_,_,_,Ly⟩;obtain⟨x0,c6⟩:∃x,D.newest 0=x:=⟨_,rfl⟩;obtain⟨x1,c7⟩:∃x,D.newest 1=x:=⟨_,rfl⟩;have b2:=λy (hb:Below w.1.size w y)=>q9g (Ly.keep λk M _=>hb.block k M) 0
  have b5:=λy (hb:Below w.1.size w y)=>q9g (Ly.keep λk M _=>hb.block k M) 1
  have r0:=qdv H (s:=0) (by omega);have r1:=qdv H (s:=1) (by omega);rw[c6] at r0;rw[c7] at r1;have e3:D.Yu 0=x0:=r0.1;have e4:D.Ym 0=0:=r0.2;have e5:D.Yu 1=x1:=r1.1;have e6:D.Ym 1=0:=r1.2;simp only[e3,e4] at b2;simp only[e5,e6] at b5;obtain⟨S,hS⟩:∃S,snS x0 x1=S:=⟨_,rfl⟩;have d9:Gq D.newest=S:=by unfold Gq;rw[c6,c7,hS]
  have hE:Fg (D.newest 0) (D.newest 1)=Fg x0 x1:=by rw[c6,c7]
  have R:=Lib.hid d9;have HE:=Lib.hid hE;have HS:=Lib.hid hS;have a6:=Lib.hid b2;have a7:=Lib.hid b5;have d5:=Lib.hid H;clear b2 b5 r0 r1 e3 e4 e5 e6 d9 hE hS c6 c7 Ly H;rcases Qcs x0 x1 with hE|hE
  ·have b1:S.may=true:=by rw[<-HS.out];exact qxs hE
   have b7:=hE;by_cases W:S.Qb=(D.n:Int)
   ·have d7:Fg (D.newest 0) (D.newest 1)=0/\(Gq D.newest).Qb=(D.n:Int):=⟨HE.out.trans hE,by rw[R.out];exact W⟩;have Q:=Lib.hid d7;have d3:=Lib.hid W;have a2:=Lib.hid b1;have f1:((D.n:Int)!=(D.n:Int))=false:=by simp
    clear d7 b1 W;go_enter Tryz.func25,Tryz.ntmps25
    go_wp2_with (first
     |(go_at_call 55;refine U.mono ?_;rintro e w1 ⟨rfl,rfl⟩)
     |(go_at_call 56;have hh:=K;refine (a7.out w2 K).mono ?_;rintro e w3 ⟨A3,n3,rfl,s3,_,b3,_⟩;have Y:=K.trans (b3.mono K.size))
     |(go_at_call 56;refine (a6.out w (Below.refl _ _)).mono ?_;rintro e w2 ⟨A2,n2,rfl,s2,_,K,_⟩)
     |(go_at_call 57;have hN:=q7k A2 n2 n2 x0 A3 n3 n3 x1 w3 (s2.below b3) s3 (ht.below Y b9);unfold q3i at hN;rw[HS.out,b7] at hN;refine hN.mono ?_;rintro e I ⟨rfl,b4⟩;have B4:=Y.trans (b4.mono Y.size))
     |(refine Ec rfl (.tmp 8) (.tmp 29) rfl I.1.size rfl S Sp.zero rfl (SB.new I Sp.zero _) ?_;intro X X6 b0 T6)
     |fail)
    have a8:Below I.1.size I X:=(Qm).trans (b0 _ (Nat.le_refl _));have O:=B4.trans (a8.mono B4.size);have L6:=L.below O;obtain⟨_,_,_,_,_,b6⟩:=L6;have q1:=X6.c1;rw[d3.out] at q1;have zX:I.1.size<X.1.size:=X6.lt;have g1:∀u:Grown X,u.to.cell? ⟨I.1.size,1,none⟩=some (.int .i64 (D.n:Int)):=Grown.cell q1 zX;have J:=Lib.hid (λu:Grown X=>q9f (b6.keep λk M _=>u.ok.block k M));refine Yc (by kernel_rfl) (by kernel_rfl) ?_;repeat (go_big_quiet_step (first
     |(go_at_call 50;exact Calls.Yw (J.out _))
     |fail))
    refine wpQuiet_nil ?_;rintro _ ⟨u,rfl⟩;have Z:=O.trans (u.ok.mono O.size);have X7:=X6.below u.ok zX;have L7:=L.below Z;have t7:=ht.below Z b9;have f4:=X7.ld;clear g1 J q1 b6;go_wp2_with fail
    refine (qol L7 d5.out S a2.out d3.out t7).mono ?_;rintro e f ⟨⟨hy,pc,rfl,C8,g0⟩|⟨hn,E,d6,rfl⟩,b8⟩
    ·have H0:=Lib.hid (show Eb D.newest false D.n=0 from Qb9 Q.out (by rw[R.out];exact hy));have e0:=qxt hy.2;have g2:=Z.size;have B8:=Z.trans (b8.mono Z.size);have X8:=X7.below b8 X7.lt;have zp:pc<f.1.size:=C8.lt;have z8:=b8.size;have hC:=C8;obtain⟨a0,e8,a1,e9,ty,cu,k1,⟨k2,k3,k4,k5⟩,k6,k7,k8,k9,g3⟩:=C8;obtain⟨A,c9⟩:∃x:Value,Value.slice (some ⟨a0,0,none⟩) (Me D.newest D.n S.gen).n e8=x:=⟨_,rfl⟩;obtain⟨B,d0⟩:∃x:Value,Value.slice (some ⟨a1,0,none⟩) (Me D.newest D.n S.gen).n e9=x:=⟨_,rfl⟩;obtain⟨F,d1⟩:∃x:Value,Value.int .i64 (Qe (Me D.newest D.n S.gen).n:Int)=x:=⟨_,rfl⟩;obtain⟨G,d2⟩:∃x:Value,Value.int .i64 ((Me D.newest D.n S.gen).first:Int)=x:=⟨_,rfl⟩;have hF:∀y,Below f.1.size f y->(ldS (.pointer (some ⟨I.1.size,0,none⟩))).run Tryz.prog y=.ok (.agg S.vs.toArray) y/\(ldC (.pointer (some ⟨pc,0,none⟩))).run Tryz.prog y=.ok (.agg #[A,B,F,G]) y/\Below f.1.size f y:=λy hb=>by
      refine⟨(X8.below hb X8.lt).ld,?_,hb⟩;have r:y.rangeAt pc 0 [A,B,F,G]:=λj v hv=>by
       rw[Nat.zero_add];refine Rj ((hb.block pc zp).trans k1) ?_;rw[c9] at k2;rw[d0] at k3;rw[d1] at k4;rw[d2] at k5;match j with
       |0=>rw[k2];exact hv
       |1=>exact k3.trans hv
       |2=>exact k4.trans hv
       |3=>exact k5.trans hv
       |j+4=>simp at hv
      exact run_loadAt_mid y pc 0 100 _ _ r Tryz.underlying100 rfl (by kernel_rfl)
     have BD:Below f.1.size f f.drew:=(Below.refl _ _).drew;have f9:=@run_makeMap Tryz.prog;have f3:=λm y=>qw8 d S A B F G m y
     go_wp2_with fail
     go_region_held3 (λy=>(ldS (.pointer (some ⟨I.1.size,0,none⟩))).run Tryz.prog y=.ok (.agg S.vs.toArray) y/\(ldC (.pointer (some ⟨pc,0,none⟩))).run Tryz.prog y=.ok (.agg #[A,B,F,G]) y/\Below f.1.size f y)
      (first|assumption|exact hF _ BD|exact hF _ (BD.alloc (Nat.le_refl _) _)|exact hF _ (((Qm).alloc (by simp) _).drew))
      (first
       |fail)
     have B9:Below f.1.size f ((f.alloc (.map #[] 0)).alloc (.cells (Wu d S A B F G f.1.size).toArray 103)).drew:=((Qm).alloc (by simp) _).drew;have c8:((f.alloc (.map #[] 0)).alloc (.cells (Wu d S A B F G f.1.size).toArray 103)).drew.1[f.1.size]?=some (.map #[] 0):=by
      show ((f.alloc (.map #[] 0)).alloc (.cells (Wu d S A B F G f.1.size).toArray 103)).1[f.1.size]?=_;rw[heap_alloc_old _ _ (by simp),heap_alloc_new]
     have d4:((f.alloc (.map #[] 0)).alloc (.cells (Wu d S A B F G f.1.size).toArray 103)).drew.1[f.1.size+1]?=some (.cells (Wu d S A B F G f.1.size).toArray 103 (0,0)):=by
      show ((f.alloc (.map #[] 0)).alloc (.cells (Wu d S A B F G f.1.size).toArray 103)).1[f.1.size+1]?=_;have e:f.1.size+1=(f.alloc (.map #[] 0)).1.size:=by simp
      rw[e,heap_alloc_new]
     generalize ((f.alloc (.map #[] 0)).alloc (.cells (Wu d S A B F G f.1.size).toArray 103)).drew=w9 at B9 c8 d4 ⊢;go_wp2;go_ret2;rw[H0.out];have BB:=B8.trans (B9.mono B8.size);refine⟨.inl ⟨rfl,f.1.size+1,rfl,λT hT=>?_,by omega⟩,BB⟩;have f0:(Me D.newest D.n S.gen).n=D.n:=qhr _ _;have C9:Yt w9 (f.1.size+1) 36 (λk=>w.1.size<=k/\k<f.1.size) (Me D.newest D.n S.gen):=by
      have hS:=(hC.mono (S':=λk=>w.1.size<=k) λk M=>by omega).shrink;refine Yt.around (p:=pc) (o:=0) hS k1 d4 (λj hj=>?_) (λk M=>by omega) λk M _=>B9.block k M
      rw[List.getElem?_toArray,qjo];match j,hj with
      |0,_=>exact c9.symm▸k2.symm
      |1,_=>exact d0.symm▸k3.symm
      |2,_=>exact d1.symm▸k4.symm
      |3,_=>exact d2.symm▸k5.symm
     have hP:Pl.Va D.newest D.n=⟨S,Me D.newest D.n S.gen,λ_=>none⟩:=by unfold Pl.Va;rw[R.out]
     rw[hP];refine⟨f.1.size,_,[],0,λ_=>undef,_,⟨d4,qsy d S _ _ _ _ _,C9,c8,⟨λe he=>(by cases he),List.nodup_nil,List.nodup_nil,λe he=>(by cases he)⟩,λa=>?_,λe he=>(by cases he),λa b h=>?_,λa b h=>(by cases h),⟨by omega,by omega,λk M=>M.1⟩,λk M=>by omega,hT,⟨hC.ok,e0,a2.out,by rw[f0];exact d3.out,by rw[<-R.out];exact e7.out,λa b h=>(by cases h)⟩,qdw a2.out⟩⟩
     ·unfold Pl.live;split<;>rfl
     ·unfold Pl.live at h;split at h<;>cases h
    ·have H5:=Lib.hid (show Eb D.newest false D.n=5 from Qcb Q.out (by rw[R.out];exact hn));have nb:(E != 0)=true:=by simpa using d6
     clear hn d6;go_wp2;go_ret2;rw[H5.out];exact⟨.inr ⟨by omega,rfl⟩,Z.trans (b8.mono Z.size)⟩
   ·have Q:=Lib.hid (show Eb D.newest false D.n=27 from qv9 (λh=>W (by rw[<-R.out];exact h.2)));have f1:(S.Qb != (D.n:Int))=true:=by simpa using W
    clear b1 W;go_enter Tryz.func25,Tryz.ntmps25
    go_wp2_with (first
     |(go_at_call 55;refine U.mono ?_;rintro e w1 ⟨rfl,rfl⟩)
     |(go_at_call 56;have hh:=K;refine (a7.out w2 K).mono ?_;rintro e w3 ⟨A3,n3,rfl,s3,_,b3,_⟩;have Y:=K.trans (b3.mono K.size))
     |(go_at_call 56;refine (a6.out w (Below.refl _ _)).mono ?_;rintro e w2 ⟨A2,n2,rfl,s2,_,K,_⟩)
     |(go_at_call 57;have hN:=q7k A2 n2 n2 x0 A3 n3 n3 x1 w3 (s2.below b3) s3 (ht.below Y b9);unfold q3i at hN;rw[HS.out,b7] at hN;refine hN.mono ?_;rintro e I ⟨rfl,b4⟩;have B4:=Y.trans (b4.mono Y.size))
     |(refine Ec rfl (.tmp 8) (.tmp 29) rfl I.1.size rfl S Sp.zero rfl (SB.new I Sp.zero _) ?_;intro X X6 b0 T6)
     |fail)
    have a8:Below I.1.size I X:=(Qm).trans (b0 _ (Nat.le_refl _));have O:=B4.trans (a8.mono B4.size);have L6:=L.below O;obtain⟨_,_,_,_,_,b6⟩:=L6;have zX:I.1.size<X.1.size:=X6.lt;have g1:∀u:Grown X,u.to.cell? ⟨I.1.size,1,none⟩=some (.int .i64 S.Qb):=Grown.cell X6.c1 zX;have J:=Lib.hid (λu:Grown X=>q9f (b6.keep λk M _=>u.ok.block k M));refine Yc (by kernel_rfl) (by kernel_rfl) ?_;repeat (go_big_quiet_step (first
     |(go_at_call 50;exact Calls.Yw (J.out _))
     |fail))
    refine wpQuiet_nil ?_;rintro _ ⟨u,rfl⟩;have Z:=O.trans (u.ok.mono O.size);go_wp2;go_ret2;rw[Q.out];exact⟨.inr ⟨by omega,rfl⟩,Z⟩
  ·have b7:=hE;have Q:=Lib.hid (show Eb D.newest false D.n=27 from qv9 (λh=>by have:=h.1;rw[HE.out,hE] at this;cases this));go_enter Tryz.func25,Tryz.ntmps25
   go_wp2_with (first
     |(go_at_call 55;refine U.mono ?_;rintro e w1 ⟨rfl,rfl⟩)
     |(go_at_call 56;have hh:=K;refine (a7.out w2 K).mono ?_;rintro e w3 ⟨A3,n3,rfl,s3,_,b3,_⟩;have Y:=K.trans (b3.mono K.size))
     |(go_at_call 56;refine (a6.out w (Below.refl _ _)).mono ?_;rintro e w2 ⟨A2,n2,rfl,s2,_,K,_⟩)
     |(go_at_call 57;have hN:=q7k A2 n2 n2 x0 A3 n3 n3 x1 w3 (s2.below b3) s3 (ht.below Y b9);unfold q3i at hN;rw[HS.out,b7] at hN;refine hN.mono ?_;rintro e I ⟨rfl,b4⟩;have B4:=Y.trans (b4.mono Y.size))
     |(refine Ec rfl (.tmp 8) (.tmp 29) rfl I.1.size rfl S Sp.zero rfl (SB.new I Sp.zero _) ?_;intro X X6 b0 T6)
     |fail)
   have a8:Below I.1.size I X:=(Qm).trans (b0 _ (Nat.le_refl _));have O:=B4.trans (a8.mono B4.size);go_quiet (fail)
   generalize e2:World.drewN X _=w7;have Z:Below w.1.size w w7:=by rw[<-e2];exact⟨O.os,O.tape,O.output,O.size,O.block⟩
   clear e2;go_wp2;go_ret2;rw[Q.out];exact⟨.inr ⟨by omega,rfl⟩,Z⟩
 ·rw[H] at U;have H4:=Lib.hid (show Eb D.newest true D.n=4 from Qca);go_enter Tryz.func25,Tryz.ntmps25
  go_wp2_with (first
   |(go_at_call 55;refine U.mono ?_;rintro e w1 ⟨rfl,rfl⟩)
   |fail)
  go_ret2;rw[H4.out];exact⟨.inr ⟨by omega,rfl⟩,Below.refl _ _⟩
end
section
open Go.ChangeMaps (setBlock)
section
variable {P:Program}{w:World}{t k e b clock:Nat}{l:List MapEntry}
theorem q4j (E:Vy l clock)(B:P.underlying t=some (.map k e))(u:P.underlying k=some (.int .i64)){z:Value}(G:(zeroValue e).run P w=.ok z w)(y:w.1[b]?=some (.map l.toArray clock))(s:Int) :
  (Instr.lookup t (.map (some b)) (.int .i64 s) true).run P w=.ok (.tuple #[(Zf s l).getD z,.bool (Zf s l).isSome]) w:=by
 have A:=λD=>MapKept.run_checkKey (P:=P) (w:=w) u (k:=.int .i64 s) rfl D 9999
 rcases q9n s l 0 E.key with⟨h1,h2,_⟩|⟨j,x,h1,_,_,F,_⟩
 ·have f:=MapKept.run_findKey (P:=P) (w:=w) u h1;simp[Instr.lookup,run_underlying B,MapKept.run_getObj_map y,A,f,G,h2]
 ·have f:=MapKept.run_findKey (P:=P) (w:=w) u h1;simp[Instr.lookup,run_underlying B,MapKept.run_getObj_map y,A,f,F]
end
theorem Qce {w:World}{g n c:Nat}{x:List UInt8}(h:Sl w (some ⟨g,0,none⟩) n c x)(hn:0<n):g<w.1.size:=by
 obtain⟨u,e,f,_⟩:=h.cell hn;injection e with e;subst e;exact f
section
variable {w w1 w2:World}{p d m clock:Nat}{cur:Array Value}{l:List MapEntry}{v:Nat->Value}{Sc S T:Nat->Prop}{P P':Pl}
theorem PL.store (L:PL w p d m cur l clock v Sc S T P)(t:Turn Sc w w1)(C1:Yt w1 p 36 Sc P'.C)(b12:Below w1.1.size w1 w2)(hn:P'.C.n=P.C.n)(hS:P'.S=P.S){a:Nat}(ha:a<P.C.n){b:Bk}(hlive:∀c,P'.live c=if c=a then some b else P.live c)
  (hgood:∀c x,P'.L c=some x->x.good) (hok:P'.ok) {q:Nat} (hx:Sl w2 (some ⟨q,0,none⟩) 256 256 (b.out a 0)) (hq:¬T q) :
  Pool (setBlock w2 m (.map (Jy (a:Int) (.slice (some ⟨q,0,none⟩) 256 256) clock l).toArray (if Zf (a:Int) l=none then clock+1 else clock))) p d S T P'/\
   Turn S w (setBlock w2 m (.map (Jy (a:Int) (.slice (some ⟨q,0,none⟩) 256 256) clock l).toArray (if Zf (a:Int) l=none then clock+1 else clock))):=by
 have Q:=t.block m L.mlt λh=>(L.ne m h).2 rfl
 have R:=L.mlt;have U:=t.size;have W:=b12.size;have J:Turn S w w2:=(t.mono L.Xu.2.2).then (Qv b12);have u:Turn (λk=>k=m) w2 (setBlock w2 m (.map (Jy (a:Int) (.slice (some ⟨q,0,none⟩) 256 256) clock l).toArray (if Zf (a:Int) l=none then clock+1 else clock))):=q0p _ rfl;have y:(setBlock w2 m (.map (Jy (a:Int) (.slice (some ⟨q,0,none⟩) 256 256) clock l).toArray (if Zf (a:Int) l=none then clock+1 else clock))).1[m]?=some (.map (Jy (a:Int) (.slice (some ⟨q,0,none⟩) 256 256) clock l).toArray (if Zf (a:Int) l=none then clock+1 else clock)):=q27 (by omega);generalize setBlock w2 m (.map (Jy (a:Int) (.slice (some ⟨q,0,none⟩) 256 256) clock l).toArray (if Zf (a:Int) l=none then clock+1 else clock))=X at u y ⊢;have f:∀k,k<w.1.size->k≠m->¬Sc k->X.1[k]?=w.1[k]?:=λk B E F=>(u.block k (by omega) E).trans ((b12.block k (by omega)).trans (t.block k B F))
 have G:=f p L.Ie L.p_m (λh=>(L.ne p h).1 rfl);refine⟨⟨m,cur,Jy (a:Int) (.slice (some ⟨q,0,none⟩) 256 256) clock l,(if Zf (a:Int) l=none then clock+1 else clock),upd v a (.slice (some ⟨q,0,none⟩) 256 256),Sc,G.trans L.me,hS▸L.ph,?_,y,L.ents.put (a:Int) _,λc=>?_,λe O=>?_,λc x h=>?_,hgood,L.Xu,L.ne,L.sub,hok,hS▸L.D8⟩,J.trans u λk B=>by rw[B];exact .inl L.Xu.2.1⟩
 ·have I:=C1.below b12;exact I.keep (u.block p (by have:=L.Ie;omega) L.p_m) λk B H=>u.block k B λe=>(L.ne k H).2 e
 ·rw[qdf,hlive c];by_cases e:c=a
  ·subst e;rw[if_pos rfl,if_pos rfl,Aw];rfl
  ·rw[if_neg (by omega),if_neg e,Ar _ _ e];exact L.look c
 ·rw[hn];rcases q9m O with h|⟨h,_⟩
  ·exact L.keys e h
  ·exact⟨a,ha,by unfold kI;rw[h]⟩
 ·rw[hlive c] at h;by_cases e:c=a
  ·rw[if_pos e] at h;injection h with h;subst h e;rw[Aw];refine⟨q,256,rfl,?_,hq⟩;exact PL.keep.stay_slice hx u.size λA=>u.block q A λe=>hq (by rw[e];exact L.sub m L.Xu.2.1)
  ·rw[if_neg e] at h;rw[Ar _ _ e];obtain⟨g,K,M,H,A⟩:=L.row c x h;exact⟨g,K,M,PL.keep.stay_slice H (by have:=u.size;omega) λD=>f g D (λe=>A (by rw[e];exact L.sub m L.Xu.2.1)) λh=>A (L.sub g (L.Xu.2.2 g h)),A⟩
theorem PL.drop (L:PL w p d m cur l clock v Sc S T P)(t:Turn Sc w w1)(C1:Yt w1 p 36 Sc P'.C)(hn:P'.C.n=P.C.n)(hS:P'.S=P.S){z:Int}(hlive:∀c:Nat,P'.live c=if (c:Int)=z then none else P.live c)
  (hgood:∀c x,P'.L c=some x->x.good) (hok:P'.ok) :
  Pool (setBlock w1 m (.map (Xw z l).toArray clock)) p d S T P'/\Turn S w (setBlock w1 m (.map (Xw z l).toArray clock)):=by
 have M:=L.mlt;have O:=t.size;have u:Turn (λk=>k=m) w1 (setBlock w1 m (.map (Xw z l).toArray clock)):=q0p _ rfl;have y:(setBlock w1 m (.map (Xw z l).toArray clock)).1[m]?=some (.map (Xw z l).toArray clock):=q27 (by omega);generalize setBlock w1 m (.map (Xw z l).toArray clock)=Q at u y ⊢;have f:∀k,k<w.1.size->k≠m->¬Sc k->Q.1[k]?=w.1[k]?:=λk A E F=>(u.block k (by omega) E).trans (t.block k A F)
 have G:=f p L.Ie L.p_m (λh=>(L.ne p h).1 rfl);refine⟨⟨m,cur,Xw z l,clock,v,Sc,G.trans L.me,hS▸L.ph,?_,y,L.ents.del z,λc=>?_,λe K=>?_,λc x h=>?_,hgood,L.Xu,L.ne,L.sub,hok,hS▸L.D8⟩,(t.mono L.Xu.2.2).trans u λk A=>by rw[A];exact .inl L.Xu.2.1⟩
 ·exact C1.keep (u.block p (by have:=L.Ie;omega) L.p_m) λk A H=>u.block k A λe=>(L.ne k H).2 e
 ·rw[q90 _ L.ents.one,hlive c];by_cases e:(c:Int)=z
  ·rw[if_pos e,if_pos e];rfl
  ·rw[if_neg e,if_neg e];exact L.look c
 ·rw[hn];exact L.keys e (q65 K)
 ·rw[hlive c] at h;split at h
  ·cases h
  ·obtain⟨g,I,J,H,B⟩:=L.row c x h;exact⟨g,I,J,PL.keep.stay_slice H (by have:=u.size;omega) λD=>f g D (λe=>B (by rw[e];exact L.sub m L.Xu.2.1)) λh=>B (L.sub g (L.Xu.2.2 g h)),B⟩
end
theorem qt1 {P:Pl}{a:Nat}(h:P.C.pick=some a)(b:Bk)(c:Nat):(P.lay b).live c=if c=a then some b else P.live c:=by
 unfold Pl.live;by_cases f:c<P.C.n
 ·rw[qdm h b c f,qfc h b c];by_cases e:c=a
  ·rw[if_pos e,if_pos e,if_pos e,if_neg (by omega)]
  ·rw[if_neg e,if_neg e,if_neg e]
 ·have A:=(Ct.Xk h).1;have e:c≠a:=by omega
  have u:P.C.get (c:Int)=0:=by unfold Ct.get;rw[if_neg (by omega)]
  have y:(P.lay b).C.get (c:Int)=0:=by unfold Ct.get;rw[qo1,if_neg (by omega)]
  rw[u,y,if_neg e,if_pos rfl,if_pos rfl]
section
variable {w:World}{p d:Nat}{S T:Nat->Prop}{P:Pl}
theorem q5i (H:Pool w p d S T P)(a x:Int)(u:P.C.get a=x) :
  Calls Tryz.prog 39 #[.pointer (some ⟨p,0,none⟩),.int .i64 a] w λe y=>e=.returned (.int .i64 x)/\w=y:=by
 obtain⟨m,cur,l,clock,v,Sc,L⟩:=H;have f:=q2p L.ct a x u;go_enter Tryz.func39,Tryz.ntmps39
 go_wp2_with fail
 refine f.mono ?_;rintro e w1 ⟨rfl,rfl⟩;go_wp2;go_ret;exact⟨rfl,rfl⟩
end
theorem PL.ld {w:World}{p d m clock:Nat}{cur:Array Value}{l:List MapEntry}{v:Nat->Value}{Sc S T:Nat->Prop}{P:Pl}(L:PL w p d m cur l clock v Sc S T P):(ldS (.pointer (some ⟨p,1,none⟩))).run Tryz.prog w=.ok (.agg P.S.vs.toArray) w:=
 run_loadAt_mid w p 1 98 P.S.vs _ L.sup Tryz.underlying98 rfl (by rw[P.S.Zj];kernel_rfl)
section
attribute [local go_sem ↓] q1n q3f
end
end
section
open Go.ChangeMaps (setBlock)
theorem qdx {P:Pl}(h:P.C.pick=none)(b:Bk):P.lay b=P:=by unfold Pl.lay;rw[h]
theorem qt2 {P:Pl}{b:Bk}(y:b.good)(h:∀c x,P.L c=some x->x.good):∀c x,(P.lay b).L c=some x->x.good:=λc x f=>by
 cases u:P.C.pick with
 |none=>rw[qdx u] at f;exact h c x f
 |some a=>
  rw[qfc u] at f;split at f
  ·injection f with f;exact f▸y
  ·exact h c x f
theorem qft (C:Ct)(a:Int)(c:Nat):(C.Qy a).get (c:Int)=if (c:Int)=a then C.Ju a else C.get (c:Int):=by
 by_cases h0:C.get a=0
 ·have f:C.Qy a=C:=by unfold Ct.Qy;rw[if_pos h0]
  have u:C.Ju a=0:=by unfold Ct.Ju;rw[if_pos h0]
  rw[f,u];by_cases e:(c:Int)=a
  ·rw[if_pos e,e,h0]
  ·rw[if_neg e]
 ·have f:C.Qy a=C.put a.toNat (C.get a-1):=by unfold Ct.Qy;rw[if_neg h0]
  have u:C.Ju a=C.get a-1:=by unfold Ct.Ju;rw[if_neg h0]
  have B:0<=a/\a<(C.n:Int):=Classical.byContradiction λh=>h0 (by unfold Ct.get;rw[if_neg h])
  obtain⟨V,y⟩:∃V,C.get a-1=V:=⟨_,rfl⟩;rw[f,u,y];by_cases A:c<C.n
  ·have h1:(C.put a.toNat V).get (c:Int)=nm (C.put a.toNat V).now c:=by unfold Ct.get;rw[C.Zi,if_pos (by omega),Int.toNat_natCast]
   have h2:C.get (c:Int)=nm C.now c:=by unfold Ct.get;rw[if_pos (by omega),Int.toNat_natCast]
   rw[h1,h2,q6d _ _ _ _ A];by_cases e:c=a.toNat
   ·rw[if_pos e,if_pos (by omega)]
   ·rw[if_neg e,if_neg (by omega)]
  ·have h1:(C.put a.toNat V).get (c:Int)=0:=by unfold Ct.get;rw[C.Zi,if_neg (by omega)]
   have h2:C.get (c:Int)=0:=by unfold Ct.get;rw[if_neg (by omega)]
   rw[h1,h2,if_neg (by omega)]
theorem qc8 {C:Ct}{a:Int}(h:C.Ju a≠0):C.get a≠0:=λh0=>h (by unfold Ct.Ju;rw[if_pos h0])
theorem qm3 (P:Pl)(a:Int)(c:Nat):Pl.live ⟨P.S,P.C.Qy a,P.L⟩ c=if (c:Int)=a/\P.C.Ju a=0 then none else P.live c:=by
 show (if (P.C.Qy a).get (c:Int)=0 then none else P.L c)=if (c:Int)=a/\P.C.Ju a=0 then none else (if P.C.get (c:Int)=0 then none else P.L c)
 rw[qft];by_cases e:(c:Int)=a
 ·rw[if_pos e];by_cases h:P.C.Ju a=0
  ·rw[if_pos h,if_pos ⟨e,h⟩]
  ·rw[if_neg h,if_neg λh2=>h h2.2,e,if_neg (qc8 h)]
 ·have f:¬((c:Int)=a/\P.C.Ju a=0):=λh2=>e h2.1
  rw[if_neg e,if_neg f]
theorem qt3 {P:Pl}(h:P.ok)(a:Int):Pl.ok ⟨P.S,P.C.Qy a,P.L⟩:=
 ⟨Ct.Pn h.c a,Ct.Po h.res a,h.may,by show P.S.Qb=((P.C.Qy a).n:Int);rw[Ct.Fj];exact h.sec,h.gen,h.fine⟩
theorem qm4 {w:World}{p d:Nat}{S T:Nat->Prop}{P:Pl}(H:Pool w p d S T P)(a:Int) :
  Calls Tryz.prog 166 #[.pointer (some ⟨p,0,none⟩),.int .i64 a] w λe w'=>e=.returned (.tuple #[.int .i64 (P.C.Ju a),.int .i64 (P.C.Jz a)])/\Pool w' p d S T ⟨P.S,P.C.Qy a,P.L⟩/\Turn S w w':=by
 have X:=H.ok;obtain⟨m,cur,l,clock,v,Sc,L⟩:=H;have f:=qlv L.ct a;have y:=qm3 P a;have A:=qft P.C a;have B:=qc8 (C:=P.C) (a:=a);have I:=qt3 X a;obtain⟨V,U⟩:∃V,P.C.Ju a=V:=⟨_,rfl⟩;obtain⟨E,Z⟩:∃E,P.C.Jz a=E:=⟨_,rfl⟩;rw[U] at f y B ⊢;simp only[U] at A;rw[Z] at f ⊢;have G:=Lib.hid f;have M:=Lib.hid y;have F:=Lib.hid I;have O:=Lib.hid A;have Q:=Lib.hid B;have a6:=L.Ie;have a2:=L.mlt;clear f y I U Z A B;by_cases h0:V=0
 ·have nb:(V==0)=true:=by simpa using h0
  have J:=Lib.hid h0;clear h0;go_enter Tryz.func166,Tryz.ntmps166
  go_wp2_with fail
  refine G.out.mono ?_;rintro e w1 ⟨rfl,K,D⟩;have Y:=D.block p L.Ie λh=>(L.ne p h).1 rfl
  have W:=D.block m L.mlt λh=>(L.ne m h).2 rfl
  have a7:w1.cell? ⟨p,40,none⟩=some (.map (some m)):=(World.cell?_of_block (a:=⟨p,40,none⟩) Y).trans L.c40;have a1:=λu ty=>q4l (P:=Tryz.prog) (t:=101) (k:=3) (e:=31) L.ents Tryz.underlying101 Tryz.underlying3 (W.trans L.map) a u ty
  obtain⟨R1,R2⟩:=L.drop (P':=⟨P.S,P.C.Qy a,P.L⟩) (z:=a) D K (Ct.Fj _ _) rfl (λc=>by rw[M.out c];simp only[J.out,and_true]) L.good F.out;go_wp2;go_ret2;exact⟨rfl,R1,R2⟩
 ·have nb:(V==0)=false:=by simpa using h0
  have J:=Lib.hid h0;clear h0;go_enter Tryz.func166,Tryz.ntmps166
  go_wp2_with fail
  refine G.out.mono ?_;rintro e w1 ⟨rfl,K,D⟩;have R:=L.Qbl D K (Ct.Fj _ _) (λc=>?_) F.out
  ·go_wp2;go_ret2;exact⟨rfl,⟨m,cur,l,clock,v,Sc,R⟩,D.mono L.Xu.2.2⟩
  ·rw[O.out c];by_cases e:(c:Int)=a
   ·rw[if_pos e,e];exact⟨λh=>absurd h J.out,λh=>absurd h (Q.out J.out)⟩
   ·rw[if_neg e]
end
section
variable {w:World}{p d:Nat}{S T:Nat->Prop}{P:Pl}
theorem qt4 (H:Pool w p d S T P)(a:Int)(h0:P.C.get a=0) :
  Calls Tryz.prog 67 #[.pointer (some ⟨p,0,none⟩),.int .i64 a] w λe u=>e=.returned (.tuple #[.slice none 0 0,.int .i64 0,.int .i64 1])/\w=u:=by
 have f:=q5i H a 0 h0;go_enter Tryz.func67,Tryz.ntmps67
 go_wp2_with (first
  |(go_at_call 39;refine f.mono ?_;rintro e w1 ⟨rfl,rfl⟩)
  |fail)
 go_ret3;exact⟨rfl,rfl⟩
theorem qm5 (H:Pool w p d S T P)(a:Nat)(b:Bk)(u:P.live a=some b) :
  Calls Tryz.prog 67 #[.pointer (some ⟨p,0,none⟩),.int .i64 (a:Int)] w λe D=>∃A n c,e=.returned (.tuple #[.slice A n c,.int .i64 1,.int .i64 0])/\Sl D A n c (b.out a 0)/\Below w.1.size w D:=by
 obtain⟨x,B⟩:∃x,P.C.get (a:Int)=x:=⟨_,rfl⟩;have y:x≠0:=λh=>by unfold Pl.live at u;rw[if_pos (B.trans h)] at u;cases u
 have E:=q5i H (a:Int) x B;have J:(x==0)=false:=by simpa using y
 obtain⟨m,cur,l,clock,v,Sc,L⟩:=H;obtain⟨g,c,G,F,_⟩:=L.row a b u;have I:=L.c40;have f:=q4j L.ents Tryz.underlying101 Tryz.underlying3 (Tryz.zeroValue31 w) L.map (a:Int);rw[L.look a,u,G] at f;replace f:(Instr.lookup 101 (.map (some m)) (.int .i64 (a:Int)) true).run Tryz.prog w=.ok (.tuple #[.slice (some ⟨g,0,none⟩) 256 c,.bool true]) w:=f;clear B y u;go_enter Tryz.func67,Tryz.ntmps67
 go_wp2_with (first
  |(go_at_call 39;refine E.mono ?_;rintro e w1 ⟨rfl,rfl⟩)
  |fail)
 go_ret3;exact⟨_,_,_,rfl,F,Below.refl _ _⟩
theorem qa1 {I:Nat->Prop}{D:DM}(F:Y9 w d I D)(H:Pool w p d S T P)(a:Nat)(h0:P.C.get (a:Int)≠0)(B:P.live a=none) :
  Calls Tryz.prog 67 #[.pointer (some ⟨p,0,none⟩),.int .i64 (a:Int)] w λe E=>∃A n c,e=.returned (.tuple #[.slice A n c,.int .i64 5,.int .i64 (D.Ym (a:Int))])/\Sl E A n c (D.Yu (a:Int))/\Below w.1.size w E:=by
 obtain⟨x,y⟩:∃x,P.C.get (a:Int)=x:=⟨_,rfl⟩;rw[y] at h0;have K:=q5i H (a:Int) x y;have Q:(x==0)=false:=by simpa using h0
 obtain⟨m,cur,l,clock,v,Sc,L⟩:=H;have M:=L.c40;have R:=L.c0;have f:=q4j L.ents Tryz.underlying101 Tryz.underlying3 (Tryz.zeroValue31 w) L.map (a:Int);rw[L.look a,B] at f;replace f:(Instr.lookup 101 (.map (some m)) (.int .i64 (a:Int)) true).run Tryz.prog w=.ok (.tuple #[.slice none 0 0,.bool false]) w:=f;obtain⟨_,_,_,_,_,G⟩:=F;have u:=q9g G (a:Int);clear y h0 B;go_enter Tryz.func67,Tryz.ntmps67
 go_wp2_with (first
  |(go_at_call 39;refine K.mono ?_;rintro e w1 ⟨rfl,rfl⟩)
  |(go_at_call 56;refine u.mono ?_;rintro e w2 ⟨A,n,rfl,O,_,J,_⟩)
  |fail)
 go_ret3;exact⟨_,_,_,rfl,O,J⟩
end
section
theorem qop (n:Nat):Xt n=Vf n++Vp (Ct.zero n) (fmtS n):=by
 unfold Xt Tm fmtC Vp Uo;rw[Ct.Q9];show Vf n++(Dx (Qo n 1) (Y4 (Ct.zero n) 1)++[.fl]++[.w 1 (swB (fmtS n) 1),.fl])=Vf n++(Dx (Qo n 1) (Y4 (Ct.zero n) 1)++.fl::[.w 1 (swB (fmtS n) 1),.fl]);rw[List.append_assoc];rfl
theorem qw9 (g x:Int)(w:World):(bdS #[(0,.int .i64 g),(1,.int .i64 x)]).run Tryz.prog w=.ok (.agg (sp0 g x 0).vs.toArray) w:=by
 show (Instr.build 98 #[(0,.int .i64 g),(1,.int .i64 x)]).run Tryz.prog w=_;kernel_rfl
structure Si (w0 w:World)(p d q:Nat)(S0:Nat->Prop)(D:DM)(P:Pl):Prop where
 turn:Turn S0 w0 w
 U8:Y9 w d (λk=>(S0 k\/w0.heap.size<=k)/\k<q) D
 pool:∀T:Nat->Prop,(∀k,q<=k->T k)->Pool w p d (λk=>q<=k) T P
 ge:w0.heap.size<=q/\q<=w.heap.size
attribute [local go_sem ↓] q9e
theorem qhs {w:World}{d:Nat}{Y:Nat->Prop}{D:DM}(L:Y9 w d Y D)(Q:D.free)(hG:¬Y 1)(ht:Tab w){m:Nat}(b5:D.Ya m)(hm:m<=700000) :
  Calls Tryz.prog 22 #[.pointer (some ⟨d,0,none⟩)] w λe w'=>∃p q,e=.returned (.tuple #[.pointer (some ⟨p,0,none⟩),.int .i64 0])/\Si w w' p d q Y (D.Qk (Xt D.n)) (Pl.fresh D.n):=by
 have f:=L.Qb;unfold Qb at f;obtain⟨M,u,_⟩:=qdl f.1 f.2 rfl Q;obtain⟨n,hn⟩:∃n,D.n=n:=⟨_,rfl⟩;rw[hn] at M u f ⊢;rw[qop] at M;have G:D.Zy (Vf n)=0:=Classical.byContradiction λh=>h (by
  have:=(q2z (l':=Vp (Ct.zero n) (fmtS n)) h).1;rw[this] at M;exact M)
 have O:(D.Qk (Vf n)).Zy (Vp (Ct.zero n) (fmtS n))=0:=by rw[q2v,if_pos G] at M;exact M
 have I:D.Qk (Xt n)=(D.Qk (Vf n)).Qk (Vp (Ct.zero n) (fmtS n)):=by rw[qop,q2w,if_pos G]
 have E:=qm0 L b5 (by omega);rw[hn] at E;have a8:D.Xp (Vf n)=true:=decide_eq_true G;rw[a8] at E;obtain⟨D1,H⟩:∃x,D.Qk (Vf n)=x:=⟨_,rfl⟩;obtain⟨D2,B⟩:∃x,D.Qk (Xt n)=x:=⟨_,rfl⟩;have b3:D1.n=n:=by rw[<-H,qw6];exact hn
 have R:D2.n=n:=by rw[<-B,qw6];exact hn
 have c9:D1.Ya (m+3):=by rw[<-H];exact q3c _ b5
 rw[H] at E O I;rw[B] at u I ⊢;have b0:D1.Xp (Vp (Ct.zero n) (fmtS n))=true:=decide_eq_true O;have A:=q8g u;rw[R] at A;have b1:(Gq D2.newest).gen<1099511627775:=by rw[A.2.1];show (1:Int)<1099511627775;omega
 have hP:Pl.Va D2.newest n=Pl.fresh n:=by
  unfold Pl.Va Pl.fresh;rw[A.2.1];have:Me D2.newest n (fmtS n).gen=Ct.zero n:=by
   have h:=A.2.2;have e:(Ct.zero n).commit=Ct.zero n:=rfl;rw[e] at h;exact h
  rw[this]
 have J:=u.free.on;have c6:=Lib.hid A.1;have b8:=Lib.hid E;have b7:=Lib.hid b0;have b6:=Lib.hid I;have HP:=Lib.hid hP;have b9:=Lib.hid b1;have a1:=Lib.hid J;have Z:=Lib.hid b3;have c7:=Lib.hid R;have HG:=Lib.hid hG;have d0:=qw9 1 (n:Int);have d2:=ht.1;clear E b0 I hP b1 J b3 R A a8 O G M u hG hn H B;go_enter Tryz.func22,Tryz.ntmps22
 go_wp2_with fail
 refine b8.out.mono ?_;rintro e w1 ⟨rfl,X⟩;have t1:=ht.turned X.turn HG.out;have Ly:=X.U8.tight;obtain⟨_,_,_,_,_,a2⟩:=Ly;have y:=q9f a2;rw[Z.out] at y;have c8:=Lib.hid y;clear y a2;go_wp2_with (first
  |(go_at_call 50;refine c8.out.mono ?_;rintro e w2 ⟨rfl,rfl⟩)
  |fail)
 refine (qdu n f.1 f.2 w1).mono ?_;rintro e w2 ⟨pc,rfl,C2,d1,b2⟩;have K:=X.U8.tight.below b2;have t2:=t1.below b2 t1.1;have z1:=X.turn.size;have z2:=b2.size;obtain⟨_,_,_,_,_,a6⟩:=K;have y:=q9f a6;have K:=X.U8.tight.below b2;rw[Z.out] at y;have a7:=Lib.hid y;clear y a6;go_wp2_with (first
  |(go_at_call 50;refine a7.out.mono ?_;rintro e w3 ⟨rfl,rfl⟩)
  |fail)
 have W:=qa0 K C2 (λk F=>⟨by have:=F.2;omega,λh=>by have:=F.2;omega⟩) (λh=>h.1.elim HG.out λh2=>by omega) (fmtS n) (q5b f.1 f.2) (qdw (q5b f.1 f.2)) (by rw[Ct.Q9];rfl) t2 c9 (by omega);rw[b7.out,<-b6.out] at W;refine W.mono ?_;rintro e w3 ⟨rfl,L3⟩;clear W;have t3:=t2.turned L3.turn λh=>h.1.elim HG.out λh2=>by omega
 have z3:=L3.turn.size;go_wp2_with fail
 refine (qm2 L3.U8 t3 b9.out).mono ?_;rw[a1.out,c7.out,HP.out,c6.out];rintro e w4 ⟨⟨_,p,rfl,U,hp⟩|⟨h,_⟩,b4⟩
 ·go_wp2;go_ret2;refine⟨p,w3.1.size,rfl,?_,?_,U,by omega,b4.size⟩
  ·have T2:Turn Y w w2:=X.turn.trans (Qv b2) λk F=>.inl F
   have T3:Turn Y w w3:=T2.trans L3.turn λk F=>F.1.elim .inl λh=>.inr h
   exact T3.trans (Qv b4) λk F=>.inl F
  ·exact ((L3.U8.mono (S':=λk=>(Y k\/w.1.size<=k)/\k<w3.1.size) λk F h=>⟨h.elim (λh=>h.1) λh=>.inr (by omega),F⟩).below b4)
 ·exact absurd rfl h
end
