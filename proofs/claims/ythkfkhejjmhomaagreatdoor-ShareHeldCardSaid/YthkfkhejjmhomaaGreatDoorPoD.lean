/- The code's pool: load. -/
import Derived.Test.YthkfkhejjmhomaaGreatDoorEs22
namespace Go.Proofs.YthkfkhejjmhomaaGreatDoor
open Go Go.RowKit Go.Proofs
set_option maxHeartbeats 8000000
set_option maxRecDepth 100000
def Hd.same (a b:Hd):Bool:=a.kind==b.kind&&(a.addr==b.addr&&(a.count==b.count&&(a.level==b.level&&a.gen==b.gen)))
theorem Hd.same_iff (a b:Hd):a.same b=true↔a=b:=by
 unfold Hd.same;simp only[Bool.and_eq_true,beq_iff_eq];constructor
 ·rintro⟨h1,h2,d,e,f⟩
  cases a;cases b;simp_all
 ·rintro rfl;simp
theorem qvo (d:Nat)(a b:Hd)(w:World):(Op.equalIn (d+2) 198 a.v b.v).run Tryz.prog w=.ok (a.same b) w:=by
 unfold Hd.v;rw[run_equalIn_agg w (d+1) 198 _ _ (by kernel_rfl) (by kernel_rfl)];unfold Program.fieldsOf;rw[Tryz.underlying198];simp[go_sem,Tryz.underlying3];unfold Hd.same;by_cases h1:a.kind=b.kind
 ·by_cases h2:a.addr=b.addr
  ·by_cases e:a.count=b.count
   ·by_cases f:a.level=b.level
    ·by_cases m:a.gen=b.gen
     ·simp[h1,h2,e,f,m]
     ·simp[h1,h2,e,f,m]
    ·simp[h1,h2,e,f]
   ·simp[h1,h2,e]
  ·simp[h1,h2]
 ·simp[h1]
theorem qzd (a b:Hd)(r:Bool)(h:a.same b=r)(w:World):(binOp .neq 198 (.agg #[.int .i64 a.kind,.int .i64 a.addr,.int .i64 a.count,.int .i64 a.level,.int .i64 a.gen]) (.agg #[.int .i64 b.kind,.int .i64 b.addr,.int .i64 b.count,.int .i64 b.level,.int .i64 b.gen])).run Tryz.prog w=.ok (.bool (!r)) w:=by
 rw[run_neq_struct];have:=qvo 9998 a b w;unfold Hd.v at this;rw[this,h];rfl
theorem qze (b:BinOp)(x y:Operand)(xs ys:Array Value)(w:World):(eqGuard b 198 x y (.agg xs) (.agg ys)).run Tryz.prog w=.ok () w:=
 run_eqGuard_agg w b 198 x y xs ys (by kernel_rfl)
theorem qlo {x:List UInt8}{a:Nat}{g:Int}:Kq x a g=(okB x&&(Yf x).same ⟨2,(a:Int),0,0,g⟩):=by
 cases b:okB x
 ·unfold Kq Tm;rw[b];rfl
 ·rw[Bool.true_and,Bool.eq_iff_iff,Hd.same_iff];unfold Kq Tm;rw[b,Bool.true_and,Bool.and_eq_true];constructor
  ·rintro⟨h1,h2⟩;obtain⟨d,e⟩:=of_decide_eq_true h1;obtain⟨f,m,p⟩:=of_decide_eq_true h2
   cases u:Yf x;rw[u] at d e f m p;simp_all
  ·intro h;rw[h];exact⟨decide_eq_true ⟨rfl,rfl⟩,decide_eq_true ⟨rfl,rfl,rfl⟩⟩
def mkP (a b:Value):Sem Value:=Instr.makeSlice 305 a b
theorem qvp (a b:Value):Instr.makeSlice 305 a b=mkP a b:=rfl
def Qad (n:Nat)(w:World):World:=w.alloc (.cells (madeCells #[.slice none 0 0] (n*1)) 48)
theorem qy8 (n:Nat)(hn:n<=1000)(w:World):(mkP (.int .i64 (n:Int)) (.int .i64 (n:Int))).run Tryz.prog w=.ok (.slice (some ⟨w.1.size,0,none⟩) n n) (Qad n w):=by
 obtain⟨i,f,d,b,e⟩:=info_parts (show (Tryz.prog.info? 48).map (λi=>(i.zero,i.size,i.bytes))=some (some (.slice none 0 0),1,24) by kernel_rfl);have h:=run_makeSlice (P:=Tryz.prog) w 305 48 i _ Tryz.underlying305 f d .i64 .i64 n n (by omega) (by omega) (by rw[b,Int.toNat_natCast];omega) (by rw[e];omega) (by omega);rw[b] at h;exact h
theorem qvq (n:Nat)(w:World):(Qad n w).1[w.1.size]?=some (.cells (madeCells #[.slice none 0 0] (n*1)) 48 (0,0)):=heap_alloc_new w _
def BR (w:World)(b n j:Nat)(f:Nat->List UInt8):Prop:=∃d:Array Value,w.1[b]?=some (.cells d 48 (0,0))/\d.size=n/\∀i,i<j->∃A m c,d[i]?=some (.slice A m c)/\Sl w A m c (f i)/\∀e,A=some e->e.block≠b
theorem BR.lt {w:World}{b n j:Nat}{ls:Nat->List UInt8}(H:BR w b n j ls):b<w.1.size:=by
 obtain⟨d,h,_⟩:=H;exact Wx h
theorem BR.below {w w':World}{b n j:Nat}{ls:Nat->List UInt8}(H:BR w b n j ls)(hb:Below w.1.size w w'):BR w' b n j ls:=by
 obtain⟨d,h,h2,p⟩:=H;refine⟨d,(hb.block b (Wx h)).trans h,h2,λi u=>?_⟩;obtain⟨A,m,c,e,y,f⟩:=p i u;exact⟨A,m,c,e,y.below hb,f⟩
theorem BR.at_ {w:World}{b n j:Nat}{ls:Nat->List UInt8}(H:BR w b n j ls){i:Nat}(hi:i<n):(∃v,w.cell? ⟨b,i,none⟩=some v)/\w.frozen? ⟨b,i,none⟩=false:=by
 obtain⟨d,h,h2,_⟩:=H;refine⟨⟨d[i],?_⟩,by unfold World.frozen?;rw[h];simp⟩;rw[cell_of_row _ _ _ _ _ _ h,Array.getElem?_eq_getElem (by omega)]
theorem BR.Uj {w:World}{b n j:Nat}{ls:Nat->List UInt8}(H:BR w b n j ls)(hj:j<n){A:Option Addr}{m c:Nat}(hs:Sl w A m c (ls j))(hA:∀d,A=some d->d.block≠b):BR (w.setCell ⟨b,j,none⟩ (.slice A m c)) b n (j+1) ls:=by
 obtain⟨p,h,h2,E⟩:=H;have T:Turn (λk=>k=b) w (w.setCell ⟨b,j,none⟩ (.slice A m c)):=Dy (a:=⟨b,j,none⟩) _ rfl;refine⟨_,heap_setCell_same w b j p _ _ h,by simp[h2],λi G=>?_⟩;by_cases e:i=j
 ·subst e;exact⟨A,m,c,by simp[h2,hj],q6y hs T λd e=>hA d e,hA⟩
 ·obtain⟨y,F,B,D,u,f⟩:=E i (by omega);exact⟨y,F,B,by rw[Array.getElem?_setIfInBounds_ne (Ne.symm e)];exact D,q6y u T λd e=>f d e,f⟩
theorem BR.parts {w:World}{b n:Nat}{ls:Nat->List UInt8}(H:BR w b n n ls)(hn:n<=1000):Parts w (some ⟨b,0,none⟩) n n ((List.range n).map ls):=by
 have f:=H.lt;obtain⟨u,h,h2,y⟩:=H;refine⟨by simp,Nat.le_refl _,by unfold maxLen;omega,λj l d=>?_⟩;have p:j<n:=by have:=(List.getElem?_eq_some_iff.1 d).1;simpa using this
 rw[List.getElem?_map,List.getElem?_range p] at d;obtain rfl:ls j=l:=by simpa using d
 obtain⟨A,m,c,e,B,_⟩:=y j p;refine⟨_,A,m,c,rfl,f,?_,B⟩;rw[show (⟨b,0,none⟩:Addr).add j=⟨b,j,none⟩ by simp[Addr.add];exact λh=>h.symm,cell_of_row _ _ _ _ _ _ h];exact e
theorem qf1 {D:DM}(b:D.off=false){s:Nat}(d:s<D.n):D.Yl (s:Int)=D.newest s/\D.Yb (s:Int)=0:=by
 unfold DM.Yl DM.Yb;have h:0<=(s:Int)/\(s:Int)<(D.n:Int):=by omega
 rw[b];simp only[Bool.false_eq_true,if_false];rw[if_pos h,if_pos h,Int.toNat_natCast];exact⟨rfl,rfl⟩
attribute [local go_sem ↓] q23 qvp
theorem qsm {w:World}{d:Nat}{S0:Nat->Prop}{D:DM}(L:Vp w d S0 D)(e6:D.off=false)(S:Sp)(b6:S.may=true)(a5:S.Qb=(D.n:Int))(ht:Tab w) :
  Calls Tryz.prog 155 #[.pointer (some ⟨d,0,none⟩),.agg S.vs.toArray] w λe w'=>
   ((((∀i,i<Ql D.n->Kq (D.newest (Qw D.n S.gen+i)) (Qw D.n S.gen+i) S.gen=true)/\J9 (D.n:Int) (mtB D.newest D.n S.gen)=0)/\∃p,e=.returned (.tuple #[.pointer (some ⟨p,0,none⟩),.int .i64 0])/\Yu w' p 0 (λk=>w.1.size<=k) (Oe D.newest D.n S.gen)/\w.1.size<=p)\/
    (¬((∀i,i<Ql D.n->Kq (D.newest (Qw D.n S.gen+i)) (Qw D.n S.gen+i) S.gen=true)/\J9 (D.n:Int) (mtB D.newest D.n S.gen)=0)/\∃E,E≠0/\e=.returned (.tuple #[.pointer none,.int .i64 E])))/\Below w.1.size w w':=by
 have a7:=L.Qb;unfold Qb at a7;have a3:=(q1g b6).1;have hg:G7 S.gen:=⟨a3.1,a3.2.1⟩;obtain⟨g,a0⟩:∃g,S.gen=g:=⟨_,rfl⟩;rw[a0] at hg ⊢;have c7:=λi hi=>q6z a7.1 a7.2 g (i:=i) hi
 obtain⟨F,Q⟩:∃m,Ql D.n=m:=⟨_,rfl⟩;have e8:F<=18:=by unfold Ql at Q;omega
 obtain⟨a,ha⟩:∃a,Qw D.n g=a:=⟨_,rfl⟩;have hA:=qfu S D.n a5 a7.2 ⟨by rw[a0];have:=hg.1;omega,by rw[a0];have:=hg.2;omega⟩;rw[a0,ha,Q] at hA;rw[ha,Q] at c7;have hB:mtB D.newest D.n g=(List.range F).map λi=>(D.newest (a+i)).drop 20:=by unfold mtB;rw[Q,ha]
 have hC:Oe D.newest D.n g=Vr D.n (mtB D.newest D.n g):=rfl;rw[hC,hB,ha,Q];generalize hG:((∀i,i<F->Kq (D.newest (a+i)) (a+i) g=true)/\J9 (D.n:Int) ((List.range F).map λi=>(D.newest (a+i)).drop 20)=0)=G;have HG:=Lib.hid hG;have HA:=Lib.hid hA;have e1:=Lib.hid c7;have d6:=λw' (H:SB w' w.1.size S)=>H.ld
 have q1:=λw' (H:SB w' w.1.size S)=>H.c1
 have q0:=λw' (H:SB w' w.1.size S)=>H.c0
 rw[a5] at q1;rw[a0] at q0;have f1:=Lib.hid d6;have Q0:=Lib.hid q0;have Q1:=Lib.hid q1;have X1:=SB.new w S 120;have b1:Below w.1.size w (w.alloc (.cells S.vs.toArray 120)):=Qn;have f4:=ht.1;have L1:=L.tight.below b1;have t1:=ht.below b1 ht.1;have d7:=X1.ld;have e5:=qy8 F (by omega);clear hG hA c7 a3 hg a5 b6 Q ha d6 q0 q1 a0 L ht hB hC;go_enter Tryz.func155,Tryz.ntmps155
 go_wp2_with fail
 generalize w.alloc (.cells S.vs.toArray 120)=w1 at b1 L1 t1 X1 d7 ⊢;refine (HA.out w1).mono ?_;rintro e w2 ⟨rfl,b2⟩;have L2:=L1.below b2;have t2:=t1.below b2 t1.1;have X2:=X1.below b2 X1.lt;have B2:=b1.trans (b2.mono b1.size);clear d7 L1 t1 X1 b1 b2;have b3:Below w2.1.size w2 (Qad F w2):=Qn;have R3:BR (Qad F w2) w2.1.size F 0 (λi=>(D.newest (a+i)).drop 20):=⟨_,qvq F w2,by rw[size_madeCells,Nat.mul_one],λi hi=>absurd hi (Nat.not_lt_zero _)⟩;go_wp2_with fail
 have L3:=L2.below b3;have t3:=t2.below b3 t2.1;have X3:=X2.below b3 X2.lt;have B3:=B2.trans (b3.mono B2.size);have e7:w.1.size<w2.1.size:=X2.lt;generalize Qad F w2=w3 at R3 L3 t3 X3 B3 ⊢;obtain⟨bb,d4⟩:∃b,w2.1.size=b:=⟨_,rfl⟩;rw[d4] at R3 e7 ⊢;clear L2 t2 X2 B2 b3 d4 e5;go_loopw [9,10,11,12,13,14,23] (λ_ _ _ _ _ _ i wr=>∃j:Nat,j<=F/\i=.int .i64 (j:Int)/\(∀q,q<j->Kq (D.newest (a+q)) (a+q) g=true)/\BR wr bb F j (λi=>(D.newest (a+i)).drop 20)/\Vp wr d (λk=>S0 k/\k<w.1.size) D/\Tab wr/\SB wr w.1.size S/\Below w.1.size w wr) (λ_ _ _ _ _ _ i _=>F-(intOf i).toNat)
 case atStart=>exact⟨0,by omega,rfl,λq hq=>absurd hq (Nat.not_lt_zero _),R3,L3,t3,X3,B3⟩
 case round=>
  clear R3 L3 t3 X3 B3;obtain⟨j,hj,rfl,b0,R,L,t,X,B⟩:=hrel;have a9:=Lib.hid b0;clear b0;by_cases a4:j<F
  ·have e3:(j:Int)<(F:Int):=by omega
   obtain⟨_,i2,_,i4⟩:=e1.out j a4;obtain⟨s,hs⟩:∃s,a+j=s:=⟨_,rfl⟩;rw[hs] at i2 i4;have f3:(a:Int)+(j:Int)=(s:Int):=by omega
   obtain⟨r1,r2⟩:=qf1 e6 i4;obtain⟨x,hx⟩:∃x,D.newest s=x:=⟨_,rfl⟩;rw[hx] at r1;obtain⟨_,_,_,_,_,L'⟩:=L;have c9:=q9c L' (s:Int);rw[r1,r2] at c9;have L:Vp wr d (λk=>S0 k/\k<w.1.size) D:=⟨_,_,_,_,_,L'⟩;have b8:=Lib.hid c9;have Hs:=Lib.hid hs;have Hx:=Lib.hid hx;clear c9 r1 r2 hs hx L'
   cases a6:okB x
   ·have d8:Kq (D.newest (a+j)) (a+j) g=false:=by rw[Hs.out,Hx.out,qlo,a6];rfl
    have b7:=Lib.hid (show ¬G by rw[<-HG.out];exact λh=>by have:=h.1 j a4;rw[d8] at this;cases this);obtain⟨o1,o2,o3⟩:=qjb a6;clear d8;go_wp2_with (first
     |(go_at_call 138;refine b8.out.mono ?_;rintro e w4 ⟨A4,n4,rfl,s4,_,I,_⟩;have t4:=t.below I t.1)
     |(go_at_call 139;have hO:=q6q A4 n4 n4 x w4 s4 t4;unfold q24 at hO;rw[o1,o2,o3] at hO;refine hO.mono ?_;rintro e f ⟨A5,n5,c5,rfl,K,b5⟩)
     |(refine q6e rfl (.tmp 12) (.tmp 37) rfl f.1.size rfl Hd.zero _ rfl (HB.zero f _) (by simp) ?_;intro y J a2 T6;have O:Below f.1.size f y:=(Qn).trans (a2 _ (Nat.le_refl _));have A:Below wr.1.size wr y:=I.trans ((b5.trans (O.mono b5.size)).mono I.size))
     |fail)
    have B6:=B.trans (A.mono B.size);go_quiet (fail)
    generalize d9:World.drewN y _=w7;have B7:Below w.1.size w w7:=by rw[<-d9];exact⟨B6.os,B6.tape,B6.output,B6.size,B6.block⟩
    clear d9;go_wp2;go_ret2;exact⟨.inr ⟨b7.out,5,by omega,rfl⟩,B7⟩
   ·obtain⟨o1,o2,o3⟩:=q7i a6;obtain⟨H,hH⟩:∃H,Yf x=H:=⟨_,rfl⟩;have o1:Yf x=H:=hH;obtain⟨r,hr⟩:∃r,H.same ⟨2,(s:Int),0,0,g⟩=r:=⟨_,rfl⟩;have d5:Kq (D.newest (a+j)) (a+j) g=r:=by rw[Hs.out,Hx.out,qlo,a6,hH,hr];rfl
    have f0:=qzd H ⟨2,(s:Int),0,0,g⟩ r hr;have e9:=qze;have q0:=Q0.out wr X;have zX:=X.lt;have d2:=Lib.hid d5;clear d5 hr hH
    cases r
    ·have b7:=Lib.hid (show ¬G by rw[<-HG.out];exact λh=>by have:=h.1 j a4;rw[d2.out] at this;cases this);go_wp2_with (first
      |(go_at_call 138;refine b8.out.mono ?_;rintro e w4 ⟨A4,n4,rfl,s4,_,I,_⟩;have t4:=t.below I t.1)
      |(go_at_call 139;have hO:=q6q A4 n4 n4 x w4 s4 t4;unfold q24 at hO;rw[o1,o2,o3] at hO;refine hO.mono ?_;rintro e f ⟨A5,n5,c5,rfl,K,b5⟩)
      |(refine q6e rfl (.tmp 12) (.tmp 37) rfl f.1.size rfl H _ rfl (HB.zero f _) (by simp) ?_;intro y J a2 T6;have O:Below f.1.size f y:=(Qn).trans (a2 _ (Nat.le_refl _));have A:Below wr.1.size wr y:=I.trans ((b5.trans (O.mono b5.size)).mono I.size))
      |fail)
     have a8:=(A.cell (p:=⟨w.1.size,0,none⟩) zX).trans q0;have d0:w.1.size<y.1.size:=Nat.lt_of_lt_of_le zX A.size;have zH:f.1.size<y.1.size:=by obtain⟨_,h⟩:=J;exact Wx h
     have B6:=B.trans (A.mono B.size);have T:=J.at_ 0;have U:=J.at_ 1;have W:=J.at_ 2;have Y:=J.at_ 3;have Z:=J.at_ 4;simp only[Yo,Hd.Eh] at T U W Y Z;have g0:∀u:Grown y,u.to.cell? ⟨w.1.size,0,none⟩=some (.int .i64 g):=Grown.cell a8 d0;have g1:∀u:Grown y,u.to.cell? ⟨f.1.size,0,none⟩=some (.int .i64 H.kind):=Grown.cell T zH;have g2:∀u:Grown y,u.to.cell? ⟨f.1.size,3,none⟩=some (.int .i64 H.level):=Grown.cell U zH;have g3:∀u:Grown y,u.to.cell? ⟨f.1.size,1,none⟩=some (.int .i64 H.addr):=Grown.cell W zH;have g4:∀u:Grown y,u.to.cell? ⟨f.1.size,2,none⟩=some (.int .i64 H.count):=Grown.cell Y zH;have g5:∀u:Grown y,u.to.cell? ⟨f.1.size,4,none⟩=some (.int .i64 H.gen):=Grown.cell Z zH;refine Ua (by kernel_rfl) (by kernel_rfl) ?_;repeat (go_big_quiet_step (first
      |(go_at_call 133;exact Calls.grown (q72 _ g _))
      |fail))
     refine wpQuiet_nil ?_;rintro _ ⟨u,rfl⟩;have B7:=B6.trans (u.ok.mono B6.size);go_wp2;go_ret2;exact⟨.inr ⟨b7.out,5,by omega,rfl⟩,B7⟩
    ·go_wp2_with (first
      |(go_at_call 138;refine b8.out.mono ?_;rintro e w4 ⟨A4,n4,rfl,s4,_,I,_⟩;have t4:=t.below I t.1)
      |(go_at_call 139;have hO:=q6q A4 n4 n4 x w4 s4 t4;unfold q24 at hO;rw[o1,o2,o3] at hO;refine hO.mono ?_;rintro e f ⟨A5,n5,c5,rfl,K,b5⟩)
      |(refine q6e rfl (.tmp 12) (.tmp 37) rfl f.1.size rfl H _ rfl (HB.zero f _) (by simp) ?_;intro y J a2 T6;have O:Below f.1.size f y:=(Qn).trans (a2 _ (Nat.le_refl _));have A:Below wr.1.size wr y:=I.trans ((b5.trans (O.mono b5.size)).mono I.size))
      |fail)
     have a8:=(A.cell (p:=⟨w.1.size,0,none⟩) zX).trans q0;have d0:w.1.size<y.1.size:=Nat.lt_of_lt_of_le zX A.size;have zH:f.1.size<y.1.size:=by obtain⟨_,h⟩:=J;exact Wx h
     have T:=J.at_ 0;have U:=J.at_ 1;have W:=J.at_ 2;have Y:=J.at_ 3;have Z:=J.at_ 4;simp only[Yo,Hd.Eh] at T U W Y Z;have g0:∀u:Grown y,u.to.cell? ⟨w.1.size,0,none⟩=some (.int .i64 g):=Grown.cell a8 d0;have g1:∀u:Grown y,u.to.cell? ⟨f.1.size,0,none⟩=some (.int .i64 H.kind):=Grown.cell T zH;have g2:∀u:Grown y,u.to.cell? ⟨f.1.size,3,none⟩=some (.int .i64 H.level):=Grown.cell U zH;have g3:∀u:Grown y,u.to.cell? ⟨f.1.size,1,none⟩=some (.int .i64 H.addr):=Grown.cell W zH;have g4:∀u:Grown y,u.to.cell? ⟨f.1.size,2,none⟩=some (.int .i64 H.count):=Grown.cell Y zH;have g5:∀u:Grown y,u.to.cell? ⟨f.1.size,4,none⟩=some (.int .i64 H.gen):=Grown.cell Z zH;refine Ua (by kernel_rfl) (by kernel_rfl) ?_;repeat (go_big_quiet_step (first
      |(go_at_call 133;exact Calls.grown (q72 _ g _))
      |fail))
     refine wpQuiet_nil ?_;rintro _ ⟨u,rfl⟩;have M:Below wr.1.size wr u.to:=A.trans (u.ok.mono A.size);have B7:=B.trans (M.mono B.size);have R7:=R.below M;have s7:Sl u.to A5 n5 c5 ((D.newest (a+j)).drop 20):=by rw[Hs.out,Hx.out,<-o2];exact (o2▸K.sl.below O).below u.ok
     have d3:∀ad,A5=some ad->ad.block≠bb:=λad e=>by have h1:=(K.block ad e).1;have h2:=R.lt;have h3:=I.size;omega
     obtain⟨⟨v7,f5⟩,f7⟩:=R7.at_ a4;have R8:=R7.Uj a4 s7 d3;have L7:=L.below M;have t7:=t.below M t.1;have X7:=X.below M X.lt;have f2:bb<u.to.1.size:=R7.lt;have a1:Turn (λk=>k=bb) u.to (u.to.setCell ⟨bb,j,none⟩ (.slice A5 n5 c5)):=Dy (a:=⟨bb,j,none⟩) _ rfl;have B8:=B7.trans (a1.below (B:=w.1.size) (λk hk=>by omega) (by omega));have L8:=L7.keep λk hk hs=>a1.block k hk λe=>by have:=hs.2;omega
     have t8:=t7.turned a1 (by omega);have X8:=X7.block (a1.block _ X7.lt (by omega));clear R L t X B R7 L7 t7 X7 B7 s7 d3 g0 g1 g2 g3 g4 g5 T U W Y Z q0 a8 A M a1;go_wp2;refine⟨⟨j+1,by omega,by go_num,λq hq=>?_,R8,L8,t8,X8,B8⟩,by simp[intOf];omega⟩;by_cases e:q=j
     ·rw[e];exact d2.out
     ·exact a9.out q (by omega)
  ·have e4:j=F:=by omega
   subst e4;have q1:=Q1.out wr X;have P:=R.parts (by omega);have c8:=qot (D.n:Int) _ _ _ _ P;obtain⟨LE,c6⟩:∃x,J9 (D.n:Int) ((List.range j).map λi=>(D.newest (a+i)).drop 20)=x:=⟨_,rfl⟩;obtain⟨LC,b9⟩:∃x,Vr D.n ((List.range j).map λi=>(D.newest (a+i)).drop 20)=x:=⟨_,rfl⟩;rw[Int.toNat_natCast,c6,b9] at c8;have d1:=Lib.hid c6;have e0:=Lib.hid b9;have e3:¬(j:Int)<(j:Int):=by omega
   have e2:=Lib.hid c8;clear c6 b9 c8;go_wp2_with fail
   refine e2.out.mono ?_;rintro e w4 ⟨⟨h0,p,rfl,C4,hp⟩|⟨h0,rfl⟩,I⟩
   ·have hY:=Lib.hid (show G by rw[<-HG.out];exact⟨a9.out,d1.out.trans h0⟩);clear h0;go_wp2;go_ret2;have:=B.size;exact⟨.inl ⟨hY.out,p,rfl,by rw[e0.out];exact C4.mono λk hk=>by omega,by omega⟩,B.trans (I.mono B.size)⟩
   ·have hN:=Lib.hid (show ¬G by rw[<-HG.out];exact λh=>h0 (d1.out.symm.trans h.2));have H0:=Lib.hid h0;clear h0;go_wp2;go_ret2;exact⟨.inr ⟨hN.out,LE,H0.out,rfl⟩,B.trans (I.mono B.size)⟩
