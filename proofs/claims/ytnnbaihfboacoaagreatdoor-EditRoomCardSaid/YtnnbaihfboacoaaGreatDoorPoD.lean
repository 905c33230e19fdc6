/- The code's pool: load. -/
import Derived.Test.YtnnbaihfboacoaaGreatDoorEr23
namespace Go.Proofs.YtnnbaihfboacoaaGreatDoor
open Go Go.RowKit Go.Proofs
set_option maxHeartbeats 8000000
set_option maxRecDepth 100000
def Hd.same (a b:Hd):Bool:=a.kind==b.kind&&(a.addr==b.addr&&(a.count==b.count&&(a.level==b.level&&a.gen==b.gen)))
theorem Hd.same_iff (a b:Hd):a.same b=true↔a=b:=by
 unfold Hd.same;simp only[Bool.and_eq_true,beq_iff_eq];constructor
 ·rintro⟨h1,h2,d,e,f⟩
  cases a;cases b;simp_all
 ·rintro rfl;simp
theorem qsu (d:Nat)(a b:Hd)(w:World):(Op.equalIn (d+2) 150 a.v b.v).run Tryz.prog w=.ok (a.same b) w:=by
 unfold Hd.v;rw[run_equalIn_agg w (d+1) 150 _ _ (by kernel_rfl) (by kernel_rfl)];unfold Program.fieldsOf;rw[Tryz.underlying150];simp[go_sem,Tryz.underlying3];unfold Hd.same;by_cases h1:a.kind=b.kind
 ·by_cases h2:a.addr=b.addr
  ·by_cases e:a.count=b.count
   ·by_cases f:a.level=b.level
    ·by_cases m:a.gen=b.gen
     ·simp[h1,h2,e,f,m]
     ·simp[h1,h2,e,f,m]
    ·simp[h1,h2,e,f]
   ·simp[h1,h2,e]
  ·simp[h1,h2]
 ·simp[h1]
theorem qxq (a b:Hd)(r:Bool)(h:a.same b=r)(w:World):(binOp .neq 150 (.agg #[.int .i64 a.kind,.int .i64 a.addr,.int .i64 a.count,.int .i64 a.level,.int .i64 a.gen]) (.agg #[.int .i64 b.kind,.int .i64 b.addr,.int .i64 b.count,.int .i64 b.level,.int .i64 b.gen])).run Tryz.prog w=.ok (.bool (!r)) w:=by
 rw[run_neq_struct];have:=qsu 9998 a b w;unfold Hd.v at this;rw[this,h];rfl
theorem qxr (b:BinOp)(x y:Operand)(xs d:Array Value)(w:World):(eqGuard b 150 x y (.agg xs) (.agg d)).run Tryz.prog w=.ok () w:=
 run_eqGuard_agg w b 150 x y xs d (by kernel_rfl)
theorem qjl {x:List UInt8}{a:Nat}{g:Int}:Kt x a g=(okB x&&(Yq x).same ⟨2,(a:Int),0,0,g⟩):=by
 cases b:okB x
 ·unfold Kt Td;rw[b];rfl
 ·rw[Bool.true_and,Bool.eq_iff_iff,Hd.same_iff];unfold Kt Td;rw[b,Bool.true_and,Bool.and_eq_true];constructor
  ·rintro⟨h1,h2⟩;obtain⟨d,e⟩:=of_decide_eq_true h1;obtain⟨f,m,p⟩:=of_decide_eq_true h2
   cases u:Yq x;rw[u] at d e f m p;simp_all
  ·intro h;rw[h];exact⟨decide_eq_true ⟨rfl,rfl⟩,decide_eq_true ⟨rfl,rfl,rfl⟩⟩
def mkP (a b:Value):Sem Value:=Instr.makeSlice 168 a b
theorem qsv (a b:Value):Instr.makeSlice 168 a b=mkP a b:=rfl
def Qab (n:Nat)(w:World):World:=w.alloc (.cells (madeCells #[.slice none 0 0] (n*1)) 31)
theorem qw7 (n:Nat)(hn:n<=1000)(w:World):(mkP (.int .i64 (n:Int)) (.int .i64 (n:Int))).run Tryz.prog w=.ok (.slice (some ⟨w.1.size,0,none⟩) n n) (Qab n w):=by
 obtain⟨i,f,d,b,e⟩:=info_parts (show (Tryz.prog.info? 31).map (λi=>(i.zero,i.size,i.bytes))=some (some (.slice none 0 0),1,24) by kernel_rfl);have h:=run_makeSlice (P:=Tryz.prog) w 168 31 i _ Tryz.underlying168 f d .i64 .i64 n n (by omega) (by omega) (by rw[b,Int.toNat_natCast];omega) (by rw[e];omega) (by omega);rw[b] at h;exact h
theorem qsw (n:Nat)(w:World):(Qab n w).1[w.1.size]?=some (.cells (madeCells #[.slice none 0 0] (n*1)) 31 (0,0)):=heap_alloc_new w _
def BR (w:World)(b n j:Nat)(f:Nat->List UInt8):Prop:=∃d:Array Value,w.1[b]?=some (.cells d 31 (0,0))/\d.size=n/\∀i,i<j->∃A m c,d[i]?=some (.slice A m c)/\Sl w A m c (f i)/\∀e,A=some e->e.block≠b
theorem BR.lt {w:World}{b n j:Nat}{ls:Nat->List UInt8}(H:BR w b n j ls):b<w.1.size:=by
 obtain⟨d,h,_⟩:=H;exact Wi h
theorem BR.below {w w':World}{b n j:Nat}{ls:Nat->List UInt8}(H:BR w b n j ls)(hb:Below w.1.size w w'):BR w' b n j ls:=by
 obtain⟨d,h,h2,p⟩:=H;refine⟨d,(hb.block b (Wi h)).trans h,h2,λi u=>?_⟩;obtain⟨A,m,c,e,y,f⟩:=p i u;exact⟨A,m,c,e,y.below hb,f⟩
theorem BR.at_ {w:World}{b n j:Nat}{ls:Nat->List UInt8}(H:BR w b n j ls){i:Nat}(hi:i<n):(∃v,w.cell? ⟨b,i,none⟩=some v)/\w.frozen? ⟨b,i,none⟩=false:=by
 obtain⟨d,h,h2,_⟩:=H;refine⟨⟨d[i],?_⟩,by unfold World.frozen?;rw[h];simp⟩;rw[cell_of_row _ _ _ _ _ _ h,Array.getElem?_eq_getElem (by omega)]
theorem BR.Vr {w:World}{b n j:Nat}{ls:Nat->List UInt8}(H:BR w b n j ls)(hj:j<n){A:Option Addr}{m c:Nat}(hs:Sl w A m c (ls j))(hA:∀d,A=some d->d.block≠b):BR (w.setCell ⟨b,j,none⟩ (.slice A m c)) b n (j+1) ls:=by
 obtain⟨p,h,h2,E⟩:=H;have T:Turn (λk=>k=b) w (w.setCell ⟨b,j,none⟩ (.slice A m c)):=Ez (a:=⟨b,j,none⟩) _ rfl;refine⟨_,heap_setCell_same w b j p _ _ h,by simp[h2],λi G=>?_⟩;by_cases e:i=j
 ·subst e;exact⟨A,m,c,by simp[h2,hj],q9z hs T λd e=>hA d e,hA⟩
 ·obtain⟨y,F,B,D,u,f⟩:=E i (by omega);exact⟨y,F,B,by rw[Array.getElem?_setIfInBounds_ne (Ne.symm e)];exact D,q9z u T λd e=>f d e,f⟩
theorem BR.parts {w:World}{b n:Nat}{ls:Nat->List UInt8}(H:BR w b n n ls)(hn:n<=1000):Parts w (some ⟨b,0,none⟩) n n ((List.range n).map ls):=by
 have f:=H.lt;obtain⟨u,h,h2,y⟩:=H;refine⟨by simp,Nat.le_refl _,by unfold maxLen;omega,λj l d=>?_⟩;have p:j<n:=by have:=(List.getElem?_eq_some_iff.1 d).1;simpa using this
 rw[List.getElem?_map,List.getElem?_range p] at d;obtain rfl:ls j=l:=by simpa using d
 obtain⟨A,m,c,e,B,_⟩:=y j p;refine⟨_,A,m,c,rfl,f,?_,B⟩;rw[show (⟨b,0,none⟩:Addr).add j=⟨b,j,none⟩ by simp[Addr.add];exact λh=>h.symm,cell_of_row _ _ _ _ _ _ h];exact e
theorem qdv {D:DM}(b:D.off=false){s:Nat}(d:s<D.n):D.Yu (s:Int)=D.newest s/\D.Ym (s:Int)=0:=by
 unfold DM.Yu DM.Ym;have h:0<=(s:Int)/\(s:Int)<(D.n:Int):=by omega
 rw[b];simp only[Bool.false_eq_true,if_false];rw[if_pos h,if_pos h,Int.toNat_natCast];exact⟨rfl,rfl⟩
attribute [local go_sem ↓] q1n qsv
theorem qol {w:World}{d:Nat}{S0:Nat->Prop}{D:DM}(L:Y9 w d S0 D)(f1:D.off=false)(S:Sp)(c7:S.may=true)(b0:S.Qb=(D.n:Int))(ht:Tab w) :
  Calls Tryz.prog 58 #[.pointer (some ⟨d,0,none⟩),.agg S.vs.toArray] w λe w'=>
   ((((∀i,i<Qe D.n->Kt (D.newest (Qo D.n S.gen+i)) (Qo D.n S.gen+i) S.gen=true)/\Xf (D.n:Int) (mtB D.newest D.n S.gen)=0)/\∃p,e=.returned (.tuple #[.pointer (some ⟨p,0,none⟩),.int .i64 0])/\Yt w' p 0 (λk=>w.1.size<=k) (Me D.newest D.n S.gen)/\w.1.size<=p)\/
    (¬((∀i,i<Qe D.n->Kt (D.newest (Qo D.n S.gen+i)) (Qo D.n S.gen+i) S.gen=true)/\Xf (D.n:Int) (mtB D.newest D.n S.gen)=0)/\∃E,E≠0/\e=.returned (.tuple #[.pointer none,.int .i64 E])))/\Below w.1.size w w':=by
 have b7:=L.Qb;unfold Qb at b7;have a7:=(q12 c7).1;have hg:Kv S.gen:=⟨a7.1,a7.2.1⟩;obtain⟨g,a1⟩:∃g,S.gen=g:=⟨_,rfl⟩;rw[a1] at hg ⊢;have d2:=λi hi=>q2x b7.1 b7.2 g (i:=i) hi
 obtain⟨F,Q⟩:∃m,Qe D.n=m:=⟨_,rfl⟩;have f3:F<=18:=by unfold Qe at Q;omega
 obtain⟨a,ha⟩:∃a,Qo D.n g=a:=⟨_,rfl⟩;have hA:=qfs S D.n b0 b7.2 ⟨by rw[a1];have:=hg.1;omega,by rw[a1];have:=hg.2;omega⟩;rw[a1,ha,Q] at hA;rw[ha,Q] at d2;have hB:mtB D.newest D.n g=(List.range F).map λi=>(D.newest (a+i)).drop 20:=by unfold mtB;rw[Q,ha]
 have hC:Me D.newest D.n g=Vu D.n (mtB D.newest D.n g):=rfl;rw[hC,hB,ha,Q];generalize hG:((∀i,i<F->Kt (D.newest (a+i)) (a+i) g=true)/\Xf (D.n:Int) ((List.range F).map λi=>(D.newest (a+i)).drop 20)=0)=G;have HG:=Lib.hid hG;have HA:=Lib.hid hA;have e7:=Lib.hid d2;have e1:=λw' (H:SB w' w.1.size S)=>H.ld
 have q1:=λw' (H:SB w' w.1.size S)=>H.c1
 have q0:=λw' (H:SB w' w.1.size S)=>H.c0
 rw[b0] at q1;rw[a1] at q0;have g6:=Lib.hid e1;have Q0:=Lib.hid q0;have Q1:=Lib.hid q1;have X1:=SB.new w S 98;have b1:Below w.1.size w (w.alloc (.cells S.vs.toArray 98)):=Qm;have g9:=ht.1;have L1:=L.tight.below b1;have t1:=ht.below b1 ht.1;have e2:=X1.ld;have f0:=qw7 F (by omega);clear hG hA d2 a7 hg b0 c7 Q ha e1 q0 q1 a1 L ht hB hC;go_enter Tryz.func58,Tryz.ntmps58
 go_wp2_with fail
 generalize w.alloc (.cells S.vs.toArray 98)=w1 at b1 L1 t1 X1 e2 ⊢;refine (HA.out w1).mono ?_;rintro e w2 ⟨rfl,b2⟩;have L2:=L1.below b2;have t2:=t1.below b2 t1.1;have X2:=X1.below b2 X1.lt;have B2:=b1.trans (b2.mono b1.size);clear e2 L1 t1 X1 b1 b2;have b3:Below w2.1.size w2 (Qab F w2):=Qm;have R3:BR (Qab F w2) w2.1.size F 0 (λi=>(D.newest (a+i)).drop 20):=⟨_,qsw F w2,by rw[size_madeCells,Nat.mul_one],λi hi=>absurd hi (Nat.not_lt_zero _)⟩;go_wp2_with fail
 have L3:=L2.below b3;have t3:=t2.below b3 t2.1;have X3:=X2.below b3 X2.lt;have B3:=B2.trans (b3.mono B2.size);have f2:w.1.size<w2.1.size:=X2.lt;generalize Qab F w2=w3 at R3 L3 t3 X3 B3 ⊢;obtain⟨bb,d9⟩:∃b,w2.1.size=b:=⟨_,rfl⟩;rw[d9] at R3 f2 ⊢;clear L2 t2 X2 B2 b3 d9 f0;go_loopw [9,10,11,12,13,14,23] (λ_ _ _ _ _ _ i wr=>∃j:Nat,j<=F/\i=.int .i64 (j:Int)/\(∀q,q<j->Kt (D.newest (a+q)) (a+q) g=true)/\BR wr bb F j (λi=>(D.newest (a+i)).drop 20)/\Y9 wr d (λk=>S0 k/\k<w.1.size) D/\Tab wr/\SB wr w.1.size S/\Below w.1.size w wr) (λ_ _ _ _ _ _ i _=>F-(intOf i).toNat)
 case atStart=>exact⟨0,by omega,rfl,λq hq=>absurd hq (Nat.not_lt_zero _),R3,L3,t3,X3,B3⟩
 case round=>
  clear R3 L3 t3 X3 B3;obtain⟨j,hj,rfl,c6,R,L,t,X,B⟩:=hrel;have b9:=Lib.hid c6;clear c6;by_cases a8:j<F
  ·have e3:(j:Int)<(F:Int):=by omega
   obtain⟨_,i2,_,i4⟩:=e7.out j a8;obtain⟨s,hs⟩:∃s,a+j=s:=⟨_,rfl⟩;rw[hs] at i2 i4;have g8:(a:Int)+(j:Int)=(s:Int):=by omega
   obtain⟨r1,r2⟩:=qdv f1 i4;obtain⟨x,hx⟩:∃x,D.newest s=x:=⟨_,rfl⟩;rw[hx] at r1;obtain⟨_,_,_,_,_,L'⟩:=L;have d4:=q9g L' (s:Int);rw[r1,r2] at d4;have L:Y9 wr d (λk=>S0 k/\k<w.1.size) D:=⟨_,_,_,_,_,L'⟩;have c9:=Lib.hid d4;have Hs:=Lib.hid hs;have Hx:=Lib.hid hx;clear d4 r1 r2 hs hx L'
   cases b6:okB x
   ·have e4:Kt (D.newest (a+j)) (a+j) g=false:=by rw[Hs.out,Hx.out,qjl,b6];rfl
    have c8:=Lib.hid (show ¬G by rw[<-HG.out];exact λh=>by have:=h.1 j a8;rw[e4] at this;cases this);obtain⟨o1,o2,o3⟩:=qik b6;clear e4;go_wp2_with (first
     |(go_at_call 56;refine c9.out.mono ?_;rintro e w4 ⟨A4,n4,rfl,s4,_,I,_⟩;have t4:=t.below I t.1)
     |(go_at_call 97;have hO:=q5v A4 n4 n4 x w4 s4 t4;unfold q21 at hO;rw[o1,o2,o3] at hO;refine hO.mono ?_;rintro e f ⟨A5,n5,c5,rfl,K,b5⟩)
     |(refine q43 rfl (.tmp 12) (.tmp 37) rfl f.1.size rfl Hd.zero _ rfl (HB.zero f _) (by simp) ?_;intro y J a6 T6;have O:Below f.1.size f y:=(Qm).trans (a6 _ (Nat.le_refl _));have A:Below wr.1.size wr y:=I.trans ((b5.trans (O.mono b5.size)).mono I.size))
     |fail)
    have B6:=B.trans (A.mono B.size);go_quiet (fail)
    generalize e5:World.drewN y _=w7;have B7:Below w.1.size w w7:=by rw[<-e5];exact⟨B6.os,B6.tape,B6.output,B6.size,B6.block⟩
    clear e5;go_wp2;go_ret2;exact⟨.inr ⟨c8.out,5,by omega,rfl⟩,B7⟩
   ·obtain⟨o1,o2,o3⟩:=q78 b6;obtain⟨H,hH⟩:∃H,Yq x=H:=⟨_,rfl⟩;have o1:Yq x=H:=hH;obtain⟨r,hr⟩:∃r,H.same ⟨2,(s:Int),0,0,g⟩=r:=⟨_,rfl⟩;have e0:Kt (D.newest (a+j)) (a+j) g=r:=by rw[Hs.out,Hx.out,qjl,b6,hH,hr];rfl
    have f9:=qxq H ⟨2,(s:Int),0,0,g⟩ r hr;have f4:=qxr;have q0:=Q0.out wr X;have zX:=X.lt;have d7:=Lib.hid e0;clear e0 hr hH
    cases r
    ·have c8:=Lib.hid (show ¬G by rw[<-HG.out];exact λh=>by have:=h.1 j a8;rw[d7.out] at this;cases this);go_wp2_with (first
      |(go_at_call 56;refine c9.out.mono ?_;rintro e w4 ⟨A4,n4,rfl,s4,_,I,_⟩;have t4:=t.below I t.1)
      |(go_at_call 97;have hO:=q5v A4 n4 n4 x w4 s4 t4;unfold q21 at hO;rw[o1,o2,o3] at hO;refine hO.mono ?_;rintro e f ⟨A5,n5,c5,rfl,K,b5⟩)
      |(refine q43 rfl (.tmp 12) (.tmp 37) rfl f.1.size rfl H _ rfl (HB.zero f _) (by simp) ?_;intro y J a6 T6;have O:Below f.1.size f y:=(Qm).trans (a6 _ (Nat.le_refl _));have A:Below wr.1.size wr y:=I.trans ((b5.trans (O.mono b5.size)).mono I.size))
      |fail)
     have b8:=(A.cell (p:=⟨w.1.size,0,none⟩) zX).trans q0;have d5:w.1.size<y.1.size:=Nat.lt_of_lt_of_le zX A.size;have zH:f.1.size<y.1.size:=by obtain⟨_,h⟩:=J;exact Wi h
     have B6:=B.trans (A.mono B.size);have T:=J.at_ 0;have U:=J.at_ 1;have W:=J.at_ 2;have Y:=J.at_ 3;have Z:=J.at_ 4;simp only[Yp,Hd.Ea] at T U W Y Z;have g0:∀u:Grown y,u.to.cell? ⟨w.1.size,0,none⟩=some (.int .i64 g):=Grown.cell b8 d5;have g1:∀u:Grown y,u.to.cell? ⟨f.1.size,0,none⟩=some (.int .i64 H.kind):=Grown.cell T zH;have g2:∀u:Grown y,u.to.cell? ⟨f.1.size,3,none⟩=some (.int .i64 H.level):=Grown.cell U zH;have g3:∀u:Grown y,u.to.cell? ⟨f.1.size,1,none⟩=some (.int .i64 H.addr):=Grown.cell W zH;have g4:∀u:Grown y,u.to.cell? ⟨f.1.size,2,none⟩=some (.int .i64 H.count):=Grown.cell Y zH;have g5:∀u:Grown y,u.to.cell? ⟨f.1.size,4,none⟩=some (.int .i64 H.gen):=Grown.cell Z zH;refine Yc (by kernel_rfl) (by kernel_rfl) ?_;repeat (go_big_quiet_step (first
      |(go_at_call 85;exact Calls.grown (q6q _ g _))
      |fail))
     refine wpQuiet_nil ?_;rintro _ ⟨u,rfl⟩;have B7:=B6.trans (u.ok.mono B6.size);go_wp2;go_ret2;exact⟨.inr ⟨c8.out,5,by omega,rfl⟩,B7⟩
    ·go_wp2_with (first
      |(go_at_call 56;refine c9.out.mono ?_;rintro e w4 ⟨A4,n4,rfl,s4,_,I,_⟩;have t4:=t.below I t.1)
      |(go_at_call 97;have hO:=q5v A4 n4 n4 x w4 s4 t4;unfold q21 at hO;rw[o1,o2,o3] at hO;refine hO.mono ?_;rintro e f ⟨A5,n5,c5,rfl,K,b5⟩)
      |(refine q43 rfl (.tmp 12) (.tmp 37) rfl f.1.size rfl H _ rfl (HB.zero f _) (by simp) ?_;intro y J a6 T6;have O:Below f.1.size f y:=(Qm).trans (a6 _ (Nat.le_refl _));have A:Below wr.1.size wr y:=I.trans ((b5.trans (O.mono b5.size)).mono I.size))
      |fail)
     have b8:=(A.cell (p:=⟨w.1.size,0,none⟩) zX).trans q0;have d5:w.1.size<y.1.size:=Nat.lt_of_lt_of_le zX A.size;have zH:f.1.size<y.1.size:=by obtain⟨_,h⟩:=J;exact Wi h
     have T:=J.at_ 0;have U:=J.at_ 1;have W:=J.at_ 2;have Y:=J.at_ 3;have Z:=J.at_ 4;simp only[Yp,Hd.Ea] at T U W Y Z;have g0:∀u:Grown y,u.to.cell? ⟨w.1.size,0,none⟩=some (.int .i64 g):=Grown.cell b8 d5;have g1:∀u:Grown y,u.to.cell? ⟨f.1.size,0,none⟩=some (.int .i64 H.kind):=Grown.cell T zH;have g2:∀u:Grown y,u.to.cell? ⟨f.1.size,3,none⟩=some (.int .i64 H.level):=Grown.cell U zH;have g3:∀u:Grown y,u.to.cell? ⟨f.1.size,1,none⟩=some (.int .i64 H.addr):=Grown.cell W zH;have g4:∀u:Grown y,u.to.cell? ⟨f.1.size,2,none⟩=some (.int .i64 H.count):=Grown.cell Y zH;have g5:∀u:Grown y,u.to.cell? ⟨f.1.size,4,none⟩=some (.int .i64 H.gen):=Grown.cell Z zH;refine Yc (by kernel_rfl) (by kernel_rfl) ?_;repeat (go_big_quiet_step (first
      |(go_at_call 85;exact Calls.grown (q6q _ g _))
      |fail))
     refine wpQuiet_nil ?_;rintro _ ⟨u,rfl⟩;have M:Below wr.1.size wr u.to:=A.trans (u.ok.mono A.size);have B7:=B.trans (M.mono B.size);have R7:=R.below M;have s7:Sl u.to A5 n5 c5 ((D.newest (a+j)).drop 20):=by rw[Hs.out,Hx.out,<-o2];exact (o2▸K.sl.below O).below u.ok
     have d8:∀ad,A5=some ad->ad.block≠bb:=λad e=>by have h1:=(K.block ad e).1;have h2:=R.lt;have h3:=I.size;omega
     obtain⟨⟨v7,i0⟩,f7⟩:=R7.at_ a8;have R8:=R7.Vr a8 s7 d8;have L7:=L.below M;have t7:=t.below M t.1;have X7:=X.below M X.lt;have g7:bb<u.to.1.size:=R7.lt;have a2:Turn (λk=>k=bb) u.to (u.to.setCell ⟨bb,j,none⟩ (.slice A5 n5 c5)):=Ez (a:=⟨bb,j,none⟩) _ rfl;have B8:=B7.trans (a2.below (B:=w.1.size) (λk hk=>by omega) (by omega));have L8:=L7.keep λk hk hs=>a2.block k hk λe=>by have:=hs.2;omega
     have t8:=t7.turned a2 (by omega);have X8:=X7.block (a2.block _ X7.lt (by omega));clear R L t X B R7 L7 t7 X7 B7 s7 d8 g0 g1 g2 g3 g4 g5 T U W Y Z q0 b8 A M a2;go_wp2;refine⟨⟨j+1,by omega,by go_num,λq hq=>?_,R8,L8,t8,X8,B8⟩,by simp[intOf];omega⟩;by_cases e:q=j
     ·rw[e];exact d7.out
     ·exact b9.out q (by omega)
  ·have e9:j=F:=by omega
   subst e9;have q1:=Q1.out wr X;have P:=R.parts (by omega);have d3:=qoi (D.n:Int) _ _ _ _ P;obtain⟨LE,d1⟩:∃x,Xf (D.n:Int) ((List.range j).map λi=>(D.newest (a+i)).drop 20)=x:=⟨_,rfl⟩;obtain⟨LC,d0⟩:∃x,Vu D.n ((List.range j).map λi=>(D.newest (a+i)).drop 20)=x:=⟨_,rfl⟩;rw[Int.toNat_natCast,d1,d0] at d3;have d6:=Lib.hid d1;have e6:=Lib.hid d0;have e3:¬(j:Int)<(j:Int):=by omega
   have e8:=Lib.hid d3;clear d1 d0 d3;go_wp2_with fail
   refine e8.out.mono ?_;rintro e w4 ⟨⟨h0,p,rfl,C4,hp⟩|⟨h0,rfl⟩,I⟩
   ·have hY:=Lib.hid (show G by rw[<-HG.out];exact⟨b9.out,d6.out.trans h0⟩);clear h0;go_wp2;go_ret2;have:=B.size;exact⟨.inl ⟨hY.out,p,rfl,by rw[e6.out];exact C4.mono λk hk=>by omega,by omega⟩,B.trans (I.mono B.size)⟩
   ·have hN:=Lib.hid (show ¬G by rw[<-HG.out];exact λh=>h0 (d6.out.symm.trans h.2));have H0:=Lib.hid h0;clear h0;go_wp2;go_ret2;exact⟨.inr ⟨hN.out,LE,H0.out,rfl⟩,B.trans (I.mono B.size)⟩
