/- The code's pool: load -/
import Derived.Test.YtloolbmdiimanaaGreatDoorGv21
namespace Go.Proofs.YtloolbmdiimanaaGreatDoor
open Go Go.RowKit Go.Proofs Tryz
set_option maxHeartbeats 8000000
set_option maxRecDepth 100000
section
def Hd.same (a b:Hd):Bool:=a.kind==b.kind&&(a.addr==b.addr&&(a.count==b.count&&(a.level==b.level&&a.gen==b.gen)))
theorem Hd.same_iff (a b:Hd):a.same b=true↔a=b:=by
 unfold Hd.same;simp only[BN,beq_iff_eq];constructor
 ·rintro⟨h1,h2,d,e,f⟩
  cases a;cases b;simp_all
 ·rintro rfl;simp
theorem qtk (d:Nat)(a b:Hd)(w:WD):(Op.equalIn (d+2) 94 a.v b.v).run prog w=.ok (a.same b) w:=by
 unfold Hd.v;rw[run_equalIn_agg w (d+1) 94 _ _ (by kernel_rfl) (by kernel_rfl)];unfold Program.fieldsOf;rw[underlying94];simp[go_sem,underlying3];unfold Hd.same;by_cases h1:a.kind=b.kind
 ·by_cases h2:a.addr=b.addr
  ·by_cases e:a.count=b.count
   ·by_cases f:a.level=b.level
    ·by_cases g:a.gen=b.gen
     ·simp[h1,h2,e,f,g]
     ·simp[h1,h2,e,f,g]
    ·simp[h1,h2,e,f]
   ·simp[h1,h2,e]
  ·simp[h1,h2]
 ·simp[h1]
theorem qyn (a b:Hd)(r:Bool)(h:a.same b=r)(w:WD):(binOp .neq 94 (.agg #[.int .i64 a.kind,.int .i64 a.addr,.int .i64 a.count,.int .i64 a.level,.int .i64 a.gen]) (.agg #[.int .i64 b.kind,.int .i64 b.addr,.int .i64 b.count,.int .i64 b.level,.int .i64 b.gen])).run prog w=.ok (.bool (!r)) w:=by
 rw[run_neq_struct];have:=qtk 9998 a b w;unfold Hd.v at this;rw[this,h];rfl
theorem qyo (d:BinOp)(x y:Operand)(xs e:Array Value)(w:WD):(eqGuard d 94 x y (.agg xs) (.agg e)).run prog w=.ok () w:=
 run_eqGuard_agg w d 94 x y xs e (by kernel_rfl)
theorem qk1 {x:LU}{a:Nat}{g:Int}:Ko x a g=(okB x&&(Xo x).same ⟨2,(a:Int),0,0,g⟩):=by
 cases d:okB x
 ·unfold Ko Vb;rw[d];rfl
 ·rw[Bool.true_and,Bool.eq_iff_iff,Hd.same_iff];unfold Ko Vb;rw[d,Bool.true_and,BN];constructor
  ·rintro⟨h1,h2⟩;obtain⟨e,f⟩:=AK h1;obtain⟨m,p,u⟩:=AK h2
   cases y:Xo x;rw[y] at e f m p u;simp_all
  ·intro h;rw[h];exact⟨AL ⟨rfl,rfl⟩,AL ⟨rfl,rfl,rfl⟩⟩
def mkP (a b:Value):Sem Value:=Instr.makeSlice 136 a b
theorem qtl (a b:Value):Instr.makeSlice 136 a b=mkP a b:=rfl
def Tf (n:Nat)(w:WD):WD:=w.alloc (.cells (madeCells #[.slice none 0 0] (n*1)) 22)
theorem qx1 (n:Nat)(hn:n<=1000)(w:WD):(mkP (.int .i64 (n:Int)) (.int .i64 (n:Int))).run prog w=.ok (.slice (some ⟨w.1.size,0,none⟩) n n) (Tf n w):=by
 obtain⟨i,hi,e,d,f⟩:=info_parts (show (prog.info? 22).map (λi=>(i.zero,i.size,i.bytes))=some (some (.slice none 0 0),1,24) by kernel_rfl);have h:=run_makeSlice (P:=prog) w 136 22 i _ underlying136 hi e .i64 .i64 n n (by omega) (by omega) (by rw[d,AJ];omega) (by rw[f];omega) (by omega);rw[d] at h;exact h
theorem qtm (n:Nat)(w:WD):(Tf n w).1[w.1.size]?=some (.cells (madeCells #[.slice none 0 0] (n*1)) 22 (0,0)):=BE w _
def BR (w:WD)(b n j:Nat)(f:Nat->LU):Prop:=∃d:Array Value,w.1[b]?=some (.cells d 22 (0,0))/\d.size=n/\∀i,i<j->∃A m c,d[i]?=some (.slice A m c)/\Sl w A m c (f i)/\∀e,A=some e->e.block≠b
theorem BR.lt {w:WD}{b n j:Nat}{ls:Nat->LU}(H:BR w b n j ls):b<w.1.size:=by
 obtain⟨d,h,_⟩:=H;exact Kw h
theorem BR.below {w w':WD}{b n j:Nat}{ls:Nat->LU}(H:BR w b n j ls)(hb:Below w.1.size w w'):BR w' b n j ls:=by
 obtain⟨d,h,h2,g⟩:=H;refine⟨d,(hb.block b (Kw h)).trans h,h2,λi hi=>?_⟩;obtain⟨A,m,c,e,p,f⟩:=g i hi;exact⟨A,m,c,e,p.below hb,f⟩
theorem BR.at_ {w:WD}{b n j:Nat}{ls:Nat->LU}(H:BR w b n j ls){i:Nat}(hi:i<n):(∃v,w.cell? ⟨b,i,none⟩=some v)/\w.frozen? ⟨b,i,none⟩=false:=by
 obtain⟨d,h,h2,_⟩:=H;refine⟨⟨d[i],?_⟩,by unfold World.frozen?;rw[h];simp⟩;rw[cell_of_row _ _ _ _ _ _ h,Array.getElem?_eq_getElem (by omega)]
theorem BR.G7 {w:WD}{b n j:Nat}{ls:Nat->LU}(H:BR w b n j ls)(hj:j<n){A:OA}{m c:Nat}(hs:Sl w A m c (ls j))(hA:∀d,A=some d->d.block≠b):BR (w.setCell ⟨b,j,none⟩ (.slice A m c)) b n (j+1) ls:=by
 obtain⟨g,h,h2,D⟩:=H;have T:Turn (λk=>k=b) w (w.setCell ⟨b,j,none⟩ (.slice A m c)):=Cc (a:=⟨b,j,none⟩) _ rfl;refine⟨_,heap_setCell_same w b j g _ _ h,by simp[h2],λi hi=>?_⟩;by_cases e:i=j
 ·subst e;exact⟨A,m,c,by simp[h2,hj],q6q hs T λd e=>hA d e,hA⟩
 ·obtain⟨u,E,y,B,p,f⟩:=D i (by omega);exact⟨u,E,y,by rw[Array.getElem?_setIfInBounds_ne (Ne.symm e)];exact B,q6q p T λd e=>f d e,f⟩
theorem BR.parts {w:WD}{b n:Nat}{ls:Nat->LU}(H:BR w b n n ls)(hn:n<=1000):Parts w (some ⟨b,0,none⟩) n n ((List.range n).map ls):=by
 have f:=H.lt;obtain⟨p,h,h2,u⟩:=H;refine⟨by simp,AE _,by unfold maxLen;omega,λj l d=>?_⟩;have g:j<n:=by have:=(List.getElem?_eq_some_iff.1 d).1;simpa using this
 rw[BA,List.getElem?_range g] at d;obtain rfl:ls j=l:=by simpa using d
 obtain⟨A,m,c,e,y,_⟩:=u j g;refine⟨_,A,m,c,rfl,f,?_,y⟩;rw[show (⟨b,0,none⟩:Addr).add j=⟨b,j,none⟩ by simp[Addr.add];exact λh=>h.symm,cell_of_row _ _ _ _ _ _ h];exact e
theorem qe8 {D:DM}(d:D.off=false){s:Nat}(e:s<D.n):D.Xh (s:Int)=D.newest s/\D.Jw (s:Int)=0:=by
 unfold DM.Xh DM.Jw;have h:0<=(s:Int)/\(s:Int)<(D.n:Int):=by omega
 rw[d];simp only[Bool.false_eq_true,if_false];rw[AA h,AA h,AJ];exact⟨rfl,rfl⟩
attribute [local go_sem ↓] q25 qtl
theorem qp9 {w:WD}{d:Nat}{S0:NP}{D:DM}(L:Vp w d S0 D)(e9:D.off=false)(S:Sp)(b6:S.may=true)(a5:S.Qa=(D.n:Int))(ht:Tab w) :
  Calls prog 44 #[.pointer (some ⟨d,0,none⟩),.agg S.vs.toArray] w λe w'=>
   ((((∀i,i<Qj D.n->Ko (D.newest (Qx D.n S.gen+i)) (Qx D.n S.gen+i) S.gen=true)/\J8 (D.n:Int) (Ti D.newest D.n S.gen)=0)/\∃p,e=.returned (.tuple #[.pointer (some ⟨p,0,none⟩),.int .i64 0])/\Yu w' p 0 (λk=>w.1.size<=k) (Ny D.newest D.n S.gen)/\w.1.size<=p)\/
    (¬((∀i,i<Qj D.n->Ko (D.newest (Qx D.n S.gen+i)) (Qx D.n S.gen+i) S.gen=true)/\J8 (D.n:Int) (Ti D.newest D.n S.gen)=0)/\∃E,E≠0/\e=.returned (.tuple #[.pointer none,.int .i64 E])))/\Below w.1.size w w':=by
 have a7:=L.Qa;unfold Qa at a7;have a3:=(Tq b6).1;have hg:Ad S.gen:=⟨a3.1,a3.2.1⟩;obtain⟨g,a0⟩:∃g,S.gen=g:=⟨_,rfl⟩;rw[a0] at hg ⊢;have d0:=λi hi=>q6r a7.1 a7.2 g (i:=i) hi
 obtain⟨F,Q⟩:∃m,Qj D.n=m:=⟨_,rfl⟩;have f1:F<=18:=by unfold Qj at Q;omega
 obtain⟨a,ha⟩:∃a,Qx D.n g=a:=⟨_,rfl⟩;have hA:=qg0 S D.n a5 a7.2 ⟨by rw[a0];have:=hg.1;omega,by rw[a0];have:=hg.2;omega⟩;rw[a0,ha,Q] at hA;rw[ha,Q] at d0;have hB:Ti D.newest D.n g=(List.range F).map λi=>(D.newest (a+i)).drop 20:=by unfold Ti;rw[Q,ha]
 have hC:Ny D.newest D.n g=Vy D.n (Ti D.newest D.n g):=rfl;rw[hC,hB,ha,Q];generalize hG:((∀i,i<F->Ko (D.newest (a+i)) (a+i) g=true)/\J8 (D.n:Int) ((List.range F).map λi=>(D.newest (a+i)).drop 20)=0)=G;have HG:=HI hG;have HA:=HI hA;have e5:=HI d0;have d9:=λw' (H:SB w' w.1.size S)=>H.ld
 have q1:=λw' (H:SB w' w.1.size S)=>H.c1
 have q0:=λw' (H:SB w' w.1.size S)=>H.c0
 rw[a5] at q1;rw[a0] at q0;have f4:=HI d9;have Q0:=HI q0;have Q1:=HI q1;have X1:=SB.new w S 61;have b1:Below w.1.size w (w.alloc (.cells S.vs.toArray 61)):=Ql;have f8:=ht.1;have L1:=L.tight.below b1;have t1:=ht.below b1 ht.1;have e0:=X1.ld;have e8:=qx1 F (by omega);clear hG hA d0 a3 hg a5 b6 Q ha d9 q0 q1 a0 L ht hB hC;go_enter func44,ntmps44
 go_wp2_with fail
 generalize w.alloc (.cells S.vs.toArray 61)=w1 at b1 L1 t1 X1 e0 ⊢;refine (HA.out w1).mono ?_;rintro e w2 ⟨rfl,b2⟩;have L2:=L1.below b2;have t2:=t1.below b2 t1.1;have X2:=X1.below b2 X1.lt;have B2:=b1.trans (b2.mono b1.size);clear e0 L1 t1 X1 b1 b2;have b3:Below w2.1.size w2 (Tf F w2):=Ql;have R3:BR (Tf F w2) w2.1.size F 0 (λi=>(D.newest (a+i)).drop 20):=⟨_,qtm F w2,by rw[size_madeCells,Nat.mul_one],λi hi=>absurd hi (Nat.not_lt_zero _)⟩;go_wp2_with fail
 have L3:=L2.below b3;have t3:=t2.below b3 t2.1;have X3:=X2.below b3 X2.lt;have B3:=B2.trans (b3.mono B2.size);have f0:w.1.size<w2.1.size:=X2.lt;generalize Tf F w2=w3 at R3 L3 t3 X3 B3 ⊢;obtain⟨bb,d7⟩:∃b,w2.1.size=b:=⟨_,rfl⟩;rw[d7] at R3 f0 ⊢;clear L2 t2 X2 B2 b3 d7 e8;go_loopw [9,10,11,12,13,14,23] (λ_ _ _ _ _ _ i wr=>∃j:Nat,j<=F/\i=.int .i64 (j:Int)/\(∀q,q<j->Ko (D.newest (a+q)) (a+q) g=true)/\BR wr bb F j (λi=>(D.newest (a+i)).drop 20)/\Vp wr d (λk=>S0 k/\k<w.1.size) D/\Tab wr/\SB wr w.1.size S/\Below w.1.size w wr) (λ_ _ _ _ _ _ i _=>F-(intOf i).toNat)
 case atStart=>exact⟨0,by omega,rfl,λq hq=>absurd hq (Nat.not_lt_zero _),R3,L3,t3,X3,B3⟩
 case round=>
  clear R3 L3 t3 X3 B3;obtain⟨j,hj,rfl,b0,R,L,t,X,B⟩:=hrel;have a9:=HI b0;clear b0;by_cases a4:j<F
  ·have e3:(j:Int)<(F:Int):=by omega
   obtain⟨_,i2,_,i4⟩:=e5.out j a4;obtain⟨s,hs⟩:∃s,a+j=s:=⟨_,rfl⟩;rw[hs] at i2 i4;have f6:(a:Int)+(j:Int)=(s:Int):=by omega
   obtain⟨r1,r2⟩:=qe8 e9 i4;obtain⟨x,hx⟩:∃x,D.newest s=x:=⟨_,rfl⟩;rw[hx] at r1;obtain⟨_,_,_,_,_,L'⟩:=L;have d2:=q94 L' (s:Int);rw[r1,r2] at d2;have L:Vp wr d (λk=>S0 k/\k<w.1.size) D:=⟨_,_,_,_,_,L'⟩;have b8:=HI d2;have Hs:=HI hs;have Hx:=HI hx;clear d2 r1 r2 hs hx L'
   cases a6:okB x
   ·have e1:Ko (D.newest (a+j)) (a+j) g=false:=by rw[Hs.out,Hx.out,qk1,a6];rfl
    have b7:=HI (show ¬G by rw[<-HG.out];exact λh=>by have:=h.1 j a4;rw[e1] at this;cases this);obtain⟨o1,o2,o3⟩:=qh8 a6;clear e1;go_wp2_with (first
     |(go_at_call 42;refine b8.out.mono ?_;rintro e w4 ⟨A4,n4,rfl,s4,_,I,_⟩;have t4:=t.below I t.1)
     |(go_at_call 72;have hO:=q5s A4 n4 n4 x w4 s4 t4;unfold Tv at hO;rw[o1,o2,o3] at hO;refine hO.mono ?_;rintro e f ⟨A5,n5,c5,rfl,K,b5⟩)
     |(refine q1f rfl (.tmp 12) (.tmp 37) rfl f.1.size rfl Hd.zero _ rfl (HB.zero f _) (by simp) ?_;intro y J a2 T6;have O:Below f.1.size f y:=(Ql).trans (a2 _ (AE _));have A:Below wr.1.size wr y:=I.trans ((b5.trans (O.mono b5.size)).mono I.size))
     |fail)
    have B6:=B.trans (A.mono B.size);go_quiet (fail)
    generalize e2:World.drewN y _=w7;have B7:Below w.1.size w w7:=by rw[<-e2];exact⟨B6.os,B6.tape,B6.output,B6.size,B6.block⟩
    clear e2;go_wp2;go_ret2;exact⟨.inr ⟨b7.out,5,by omega,rfl⟩,B7⟩
   ·obtain⟨o1,o2,o3⟩:=q5y a6;obtain⟨H,hH⟩:∃H,Xo x=H:=⟨_,rfl⟩;have o1:Xo x=H:=hH;obtain⟨r,hr⟩:∃r,H.same ⟨2,(s:Int),0,0,g⟩=r:=⟨_,rfl⟩;have d8:Ko (D.newest (a+j)) (a+j) g=r:=by rw[Hs.out,Hx.out,qk1,a6,hH,hr];rfl
    have f3:=qyn H ⟨2,(s:Int),0,0,g⟩ r hr;have f2:=qyo;have q0:=Q0.out wr X;have zX:=X.lt;have d5:=HI d8;clear d8 hr hH
    cases r
    ·have b7:=HI (show ¬G by rw[<-HG.out];exact λh=>by have:=h.1 j a4;rw[d5.out] at this;cases this);go_wp2_with (first
      |(go_at_call 42;refine b8.out.mono ?_;rintro e w4 ⟨A4,n4,rfl,s4,_,I,_⟩;have t4:=t.below I t.1)
      |(go_at_call 72;have hO:=q5s A4 n4 n4 x w4 s4 t4;unfold Tv at hO;rw[o1,o2,o3] at hO;refine hO.mono ?_;rintro e f ⟨A5,n5,c5,rfl,K,b5⟩)
      |(refine q1f rfl (.tmp 12) (.tmp 37) rfl f.1.size rfl H _ rfl (HB.zero f _) (by simp) ?_;intro y J a2 T6;have O:Below f.1.size f y:=(Ql).trans (a2 _ (AE _));have A:Below wr.1.size wr y:=I.trans ((b5.trans (O.mono b5.size)).mono I.size))
      |fail)
     have a8:=(A.cell (p:=⟨w.1.size,0,none⟩) zX).trans q0;have d3:w.1.size<y.1.size:=Nat.lt_of_lt_of_le zX A.size;have zH:f.1.size<y.1.size:=by obtain⟨_,h⟩:=J;exact Kw h
     have B6:=B.trans (A.mono B.size);have T:=J.at_ 0;have U:=J.at_ 1;have W:=J.at_ 2;have Y:=J.at_ 3;have Z:=J.at_ 4;simp only[Xv,Hd.Bf] at T U W Y Z;have g0:∀u:Grown y,u.to.cell? ⟨w.1.size,0,none⟩=some (.int .i64 g):=Grown.cell a8 d3;have g1:∀u:Grown y,u.to.cell? ⟨f.1.size,0,none⟩=some (.int .i64 H.kind):=Grown.cell T zH;have g2:∀u:Grown y,u.to.cell? ⟨f.1.size,3,none⟩=some (.int .i64 H.level):=Grown.cell U zH;have g3:∀u:Grown y,u.to.cell? ⟨f.1.size,1,none⟩=some (.int .i64 H.addr):=Grown.cell W zH;have g4:∀u:Grown y,u.to.cell? ⟨f.1.size,2,none⟩=some (.int .i64 H.count):=Grown.cell Y zH;have g5:∀u:Grown y,u.to.cell? ⟨f.1.size,4,none⟩=some (.int .i64 H.gen):=Grown.cell Z zH;refine Ug (by kernel_rfl) (by kernel_rfl) ?_;repeat (go_big_quiet_step (first
      |(go_at_call 38;exact Calls.grown (q6v _ g _))
      |fail))
     refine wpQuiet_nil ?_;rintro _ ⟨u,rfl⟩;have B7:=B6.trans (u.ok.mono B6.size);go_wp2;go_ret2;exact⟨.inr ⟨b7.out,5,by omega,rfl⟩,B7⟩
    ·go_wp2_with (first
      |(go_at_call 42;refine b8.out.mono ?_;rintro e w4 ⟨A4,n4,rfl,s4,_,I,_⟩;have t4:=t.below I t.1)
      |(go_at_call 72;have hO:=q5s A4 n4 n4 x w4 s4 t4;unfold Tv at hO;rw[o1,o2,o3] at hO;refine hO.mono ?_;rintro e f ⟨A5,n5,c5,rfl,K,b5⟩)
      |(refine q1f rfl (.tmp 12) (.tmp 37) rfl f.1.size rfl H _ rfl (HB.zero f _) (by simp) ?_;intro y J a2 T6;have O:Below f.1.size f y:=(Ql).trans (a2 _ (AE _));have A:Below wr.1.size wr y:=I.trans ((b5.trans (O.mono b5.size)).mono I.size))
      |fail)
     have a8:=(A.cell (p:=⟨w.1.size,0,none⟩) zX).trans q0;have d3:w.1.size<y.1.size:=Nat.lt_of_lt_of_le zX A.size;have zH:f.1.size<y.1.size:=by obtain⟨_,h⟩:=J;exact Kw h
     have T:=J.at_ 0;have U:=J.at_ 1;have W:=J.at_ 2;have Y:=J.at_ 3;have Z:=J.at_ 4;simp only[Xv,Hd.Bf] at T U W Y Z;have g0:∀u:Grown y,u.to.cell? ⟨w.1.size,0,none⟩=some (.int .i64 g):=Grown.cell a8 d3;have g1:∀u:Grown y,u.to.cell? ⟨f.1.size,0,none⟩=some (.int .i64 H.kind):=Grown.cell T zH;have g2:∀u:Grown y,u.to.cell? ⟨f.1.size,3,none⟩=some (.int .i64 H.level):=Grown.cell U zH;have g3:∀u:Grown y,u.to.cell? ⟨f.1.size,1,none⟩=some (.int .i64 H.addr):=Grown.cell W zH;have g4:∀u:Grown y,u.to.cell? ⟨f.1.size,2,none⟩=some (.int .i64 H.count):=Grown.cell Y zH;have g5:∀u:Grown y,u.to.cell? ⟨f.1.size,4,none⟩=some (.int .i64 H.gen):=Grown.cell Z zH;refine Ug (by kernel_rfl) (by kernel_rfl) ?_;repeat (go_big_quiet_step (first
      |(go_at_call 38;exact Calls.grown (q6v _ g _))
      |fail))
     refine wpQuiet_nil ?_;rintro _ ⟨u,rfl⟩;have M:Below wr.1.size wr u.to:=A.trans (u.ok.mono A.size);have B7:=B.trans (M.mono B.size);have R7:=R.below M;have s7:Sl u.to A5 n5 c5 ((D.newest (a+j)).drop 20):=by rw[Hs.out,Hx.out,<-o2];exact (o2▸K.sl.below O).below u.ok
     have d6:∀ad,A5=some ad->ad.block≠bb:=λad e=>by have h1:=(K.block ad e).1;have h2:=R.lt;have h3:=I.size;omega
     obtain⟨⟨v7,f9⟩,f7⟩:=R7.at_ a4;have R8:=R7.G7 a4 s7 d6;have L7:=L.below M;have t7:=t.below M t.1;have X7:=X.below M X.lt;have f5:bb<u.to.1.size:=R7.lt;have a1:Turn (λk=>k=bb) u.to (u.to.setCell ⟨bb,j,none⟩ (.slice A5 n5 c5)):=Cc (a:=⟨bb,j,none⟩) _ rfl;have B8:=B7.trans (a1.below (B:=w.1.size) (λk hk=>by omega) (by omega));have L8:=L7.keep λk hk hs=>a1.block k hk λe=>by have:=hs.2;omega
     have t8:=t7.turned a1 (by omega);have X8:=X7.block (a1.block _ X7.lt (by omega));clear R L t X B R7 L7 t7 X7 B7 s7 d6 g0 g1 g2 g3 g4 g5 T U W Y Z q0 a8 A M a1;go_wp2;refine⟨⟨j+1,by omega,by go_num,λq hq=>?_,R8,L8,t8,X8,B8⟩,by simp[intOf];omega⟩;by_cases e:q=j
     ·rw[e];exact d5.out
     ·exact a9.out q (by omega)
  ·have e7:j=F:=by omega
   subst e7;have q1:=Q1.out wr X;have P:=R.parts (by omega);have d1:=qok (D.n:Int) _ _ _ _ P;obtain⟨LE,c9⟩:∃x,J8 (D.n:Int) ((List.range j).map λi=>(D.newest (a+i)).drop 20)=x:=⟨_,rfl⟩;obtain⟨LC,b9⟩:∃x,Vy D.n ((List.range j).map λi=>(D.newest (a+i)).drop 20)=x:=⟨_,rfl⟩;rw[AJ,c9,b9] at d1;have d4:=HI c9;have e4:=HI b9;have e3:¬(j:Int)<(j:Int):=by omega
   have e6:=HI d1;clear c9 b9 d1;go_wp2_with fail
   refine e6.out.mono ?_;rintro e w4 ⟨⟨h0,p,rfl,C4,hp⟩|⟨h0,rfl⟩,I⟩
   ·have hY:=HI (show G by rw[<-HG.out];exact⟨a9.out,d4.out.trans h0⟩);clear h0;go_wp2;go_ret2;have:=B.size;exact⟨.inl ⟨hY.out,p,rfl,by rw[e4.out];exact C4.mono λk hk=>by omega,by omega⟩,B.trans (I.mono B.size)⟩
   ·have hN:=HI (show ¬G by rw[<-HG.out];exact λh=>h0 (d4.out.symm.trans h.2));have H0:=HI h0;clear h0;go_wp2;go_ret2;exact⟨.inr ⟨hN.out,LE,H0.out,rfl⟩,B.trans (I.mono B.size)⟩
end
section
def Wp (d:Nat)(S:Sp)(e f g p:Value)(m:Nat):LV:=.pointer (some ⟨d,0,none⟩)::(S.vs++[e,f,g,p,.map (some m)])
theorem qpa (d:Nat)(S:Sp)(e f g p:Value)(m:Nat):(Wp d S e f g p m).length=41:=by unfold Wp;rw[AX,AD,S.Jh];rfl
theorem qk2 (d:Nat)(S:Sp)(e f g p:Value)(m k:Nat):(Wp d S e f g p m)[36+k]?=[e,f,g,p,.map (some m)][k]?:=by
 unfold Wp;rw[show 36+k=(35+k)+1 by omega,List.getElem?_cons_succ,List.getElem?_append_right (by rw[S.Jh];omega),S.Jh,Nat.add_sub_cancel_left]
theorem qtn (d:Nat)(S:Sp)(f g p u:Value)(m:Nat):PH (Wp d S f g p u m).toArray d m S:=by
 refine⟨by rw[List.size_toArray,qpa],rfl,λj x e=>?_,?_⟩
 ·have y:=(List.getElem?_eq_some_iff.1 e).1;rw[List.getElem?_toArray,Nat.add_comm];unfold Wp;rw[List.getElem?_cons_succ,List.getElem?_append_left y];exact e
 ·rw[List.getElem?_toArray];exact qk2 d S f g p u m 4
def bdP (parts:Array (Nat × Value)):Sem Value:=Instr.build 66 parts
theorem qto (parts:Array (Nat × Value)):Instr.build 66 parts=bdP parts:=rfl
def ldC (p:Value):Sem Value:=Instr.loadAt 63 p
theorem qtp (p:Value):Instr.loadAt 63 p=ldC p:=rfl
theorem qx2 (d:Nat)(S:Sp)(p u y A:Value)(m:Nat)(w:WD):(bdP #[(0,.pointer (some ⟨d,0,none⟩)),(1,.agg S.vs.toArray),(2,.agg #[p,u,y,A]),(3,.map (some m))]).run prog w=.ok (.agg (Wp d S p u y A m).toArray) w:=by
 unfold Wp Sp.vs;obtain⟨a,b,c,D,e,f,g,h,B⟩:=qjj S.len;rw[B];show (Instr.build 66 _).run prog w=_;kernel_rfl
theorem Qcb {f:Nat->LU}{n:Nat}:Eo f true n=4:=by unfold Eo;rw[AA rfl]
theorem qvs {f:Nat->LU}{n:Nat}(h:¬(Ey (f 0) (f 1)=0/\(Gq f).Qa=(n:Int))):Eo f false n=27:=by unfold Eo;rw[AB (by decide),AA h]
theorem Qcc {f:Nat->LU}{n:Nat}(h:Ey (f 0) (f 1)=0/\(Gq f).Qa=(n:Int))(h2:¬((∀i,i<Qj n->Ko (f (Qx n (Gq f).gen+i)) (Qx n (Gq f).gen+i) (Gq f).gen=true)/\J8 (n:Int) (Ti f n (Gq f).gen)=0)):Eo f false n=5:=by unfold Eo;rw[AB (by decide),AB (λd=>d h),AA h2]
theorem Qca {f:Nat->LU}{n:Nat}(h:Ey (f 0) (f 1)=0/\(Gq f).Qa=(n:Int))(h2:(∀i,i<Qj n->Ko (f (Qx n (Gq f).gen+i)) (Qx n (Gq f).gen+i) (Gq f).gen=true)/\J8 (n:Int) (Ti f n (Gq f).gen)=0):Eo f false n=0:=by unfold Eo;rw[AB (by decide),AB (λd=>d h),AB (λd=>d h2)]
theorem Qc2 (a b:LU):Ey a b=0\/Ey a b=27:=by unfold Ey;split;exact .inr rfl;exact .inl rfl
def Pl.Gh (f:Nat->LU)(n:Nat):Pl:=⟨Gq f,Ny f n (Gq f).gen,λ_=>none⟩
attribute [local go_sem ↓] q25 q6n qto qtp
theorem qme {w:WD}{d:Nat}{S0:NP}{D:DM}(L0:Vp w d S0 D)(ht:Tab w)(d5:(Gq D.newest).gen<1099511627775) :
  Calls prog 25 #[.pointer (some ⟨d,0,none⟩)] w λe g=>
   ((Eo D.newest D.off D.n=0/\∃p,e=.returned (.tuple #[.pointer (some ⟨p,0,none⟩),.int .i64 0])/\(∀T:NP,(∀k,w.1.size<=k->T k)->Pool g p d (λk=>w.1.size<=k) T (Pl.Gh D.newest D.n))/\w.1.size<=p)\/
    (Eo D.newest D.off D.n≠0/\e=.returned (.tuple #[.pointer none,.int .i64 (Eo D.newest D.off D.n)])))/\Below w.1.size w g:=by
 have d8:=L0.Qa;unfold Qa at d8;have L:=L0.tight;have b0:=ht.1;obtain⟨_,_,_,_,_,Ly⟩:=L;have Q:=qyz Ly;have e9:=qdy;have e4:=HI d5;clear L0 d5
 cases G:D.off
 ·rw[G] at Q;have L:Vp w d _ D:=⟨_,_,_,_,_,Ly⟩;obtain⟨x0,b1⟩:∃x,D.newest 0=x:=⟨_,rfl⟩;obtain⟨x1,b2⟩:∃x,D.newest 1=x:=⟨_,rfl⟩;have a6:=λg (hb:Below w.1.size w g)=>q94 (Ly.keep λk K _=>hb.block k K) 0
  have a7:=λg (hb:Below w.1.size w g)=>q94 (Ly.keep λk K _=>hb.block k K) 1
  have r0:=qe8 G (s:=0) (by omega);have r1:=qe8 G (s:=1) (by omega);rw[b1] at r0;rw[b2] at r1;have e0:D.Xh 0=x0:=r0.1;have e1:D.Jw 0=0:=r0.2;have e2:D.Xh 1=x1:=r1.1;have e3:D.Jw 1=0:=r1.2;simp only[e0,e1] at a6;simp only[e2,e3] at a7;obtain⟨S,hS⟩:∃S,snS x0 x1=S:=⟨_,rfl⟩;have d6:Gq D.newest=S:=by unfold Gq;rw[b1,b2,hS]
  have hE:Ey (D.newest 0) (D.newest 1)=Ey x0 x1:=by rw[b1,b2]
  have P:=HI d6;have HE:=HI hE;have HS:=HI hS;have Z:=HI a6;have a2:=HI a7;have d2:=HI G;clear a6 a7 r0 r1 e0 e1 e2 e3 d6 hE hS b1 b2 Ly G;rcases Qc2 x0 x1 with hE|hE
  ·have a5:S.may=true:=by rw[<-HS.out];exact qyl hE
   have a9:=hE;by_cases R:S.Qa=(D.n:Int)
   ·have d4:Ey (D.newest 0) (D.newest 1)=0/\(Gq D.newest).Qa=(D.n:Int):=⟨HE.out.trans hE,by rw[P.out];exact R⟩;have O:=HI d4;have d0:=HI R;have Y:=HI a5;have e8:((D.n:Int)!=(D.n:Int))=false:=by simp
    clear d4 a5 R;go_enter func25,ntmps25
    go_wp2_with (first
     |(go_at_call 41;refine Q.mono ?_;rintro e w1 ⟨rfl,rfl⟩)
     |(go_at_call 42;have hh:=J;refine (a2.out w2 J).mono ?_;rintro e w3 ⟨A3,n3,rfl,s3,_,b3,_⟩;have W:=J.trans (b3.mono J.size))
     |(go_at_call 42;refine (Z.out w (AI _ _)).mono ?_;rintro e w2 ⟨A2,n2,rfl,s2,_,J,_⟩)
     |(go_at_call 43;have hN:=q7o A2 n2 n2 x0 A3 n3 n3 x1 w3 (s2.below b3) s3 (ht.below W b0);unfold q3m at hN;rw[HS.out,a9] at hN;refine hN.mono ?_;rintro e H ⟨rfl,b4⟩;have B4:=W.trans (b4.mono W.size))
     |(refine Es rfl (.tmp 8) (.tmp 29) rfl H.1.size rfl S Sp.zero rfl (SB.new H Sp.zero _) ?_;intro U X6 a4 T6)
     |fail)
    have a3:Below H.1.size H U:=(Ql).trans (a4 _ (AE _));have M:=B4.trans (a3.mono B4.size);have L6:=L.below M;obtain⟨_,_,_,_,_,a8⟩:=L6;have q1:=X6.c1;rw[d0.out] at q1;have zX:H.1.size<U.1.size:=X6.lt;have g1:∀u:Grown U,u.to.cell? ⟨H.1.size,1,none⟩=some (.int .i64 (D.n:Int)):=Grown.cell q1 zX;have I:=HI (λu:Grown U=>q98 (a8.keep λk K _=>u.ok.block k K));refine Ug (by kernel_rfl) (by kernel_rfl) ?_;repeat (go_big_quiet_step (first
     |(go_at_call 23;exact Calls.J7 (I.out _))
     |fail))
    refine wpQuiet_nil ?_;rintro _ ⟨u,rfl⟩;have X:=M.trans (u.ok.mono M.size);have X7:=X6.below u.ok zX;have L7:=L.below X;have t7:=ht.below X b0;have f1:=X7.ld;clear g1 I q1 a8;go_wp2_with fail
    refine (qp9 L7 d2.out S Y.out d0.out t7).mono ?_;rintro e f ⟨⟨hy,pc,rfl,C8,f3⟩|⟨hn,E,d3,rfl⟩,b8⟩
    ·have H0:=HI (show Eo D.newest false D.n=0 from Qca O.out (by rw[P.out];exact hy));have d7:=qym hy.2;have f4:=X.size;have B8:=X.trans (b8.mono X.size);have X8:=X7.below b8 X7.lt;have zp:pc<f.1.size:=C8.lt;have z8:=b8.size;have hC:=C8;obtain⟨a0,e5,a1,e6,ty,cu,k1,⟨k2,k3,k4,k5⟩,k6,k7,k8,k9,f5⟩:=C8;obtain⟨y,b6⟩:∃x:Value,Value.slice (some ⟨a0,0,none⟩) (Ny D.newest D.n S.gen).n e5=x:=⟨_,rfl⟩;obtain⟨A,b7⟩:∃x:Value,Value.slice (some ⟨a1,0,none⟩) (Ny D.newest D.n S.gen).n e6=x:=⟨_,rfl⟩;obtain⟨B,b9⟩:∃x:Value,Value.int .i64 (Qj (Ny D.newest D.n S.gen).n:Int)=x:=⟨_,rfl⟩;obtain⟨F,c9⟩:∃x:Value,Value.int .i64 ((Ny D.newest D.n S.gen).first:Int)=x:=⟨_,rfl⟩;have hF:∀g,Below f.1.size f g->(ldS (.pointer (some ⟨H.1.size,0,none⟩))).run prog g=.ok (.agg S.vs.toArray) g/\(ldC (.pointer (some ⟨pc,0,none⟩))).run prog g=.ok (.agg #[y,A,B,F]) g/\Below f.1.size f g:=λg hb=>by
      refine⟨(X8.below hb X8.lt).ld,?_,hb⟩;have r:g.rangeAt pc 0 [y,A,B,F]:=λj v hv=>by
       rw[AT];refine q39 ((hb.block pc zp).trans k1) ?_;rw[b6] at k2;rw[b7] at k3;rw[b9] at k4;rw[c9] at k5;match j with
       |0=>rw[k2];exact hv
       |1=>exact k3.trans hv
       |2=>exact k4.trans hv
       |3=>exact k5.trans hv
       |j+4=>simp at hv
      exact run_loadAt_mid g pc 0 63 _ _ r underlying63 rfl (by kernel_rfl)
     have BD:Below f.1.size f f.drew:=(AI _ _).drew;have f2:=@run_makeMap prog;have f0:=λm g=>qx2 d S y A B F m g
     go_wp2_with fail
     go_region_held3 (λg=>(ldS (.pointer (some ⟨H.1.size,0,none⟩))).run prog g=.ok (.agg S.vs.toArray) g/\(ldC (.pointer (some ⟨pc,0,none⟩))).run prog g=.ok (.agg #[y,A,B,F]) g/\Below f.1.size f g)
      (first|assumption|exact hF _ BD|exact hF _ (BD.alloc (AE _) _)|exact hF _ (((Ql).alloc (by simp) _).drew))
      (first
       |fail)
     have B9:Below f.1.size f ((f.alloc (.map #[] 0)).alloc (.cells (Wp d S y A B F f.1.size).toArray 66)).drew:=((Ql).alloc (by simp) _).drew;have b5:((f.alloc (.map #[] 0)).alloc (.cells (Wp d S y A B F f.1.size).toArray 66)).drew.1[f.1.size]?=some (.map #[] 0):=by
      show ((f.alloc (.map #[] 0)).alloc (.cells (Wp d S y A B F f.1.size).toArray 66)).1[f.1.size]?=_;rw[heap_alloc_old _ _ (by simp),BE]
     have d1:((f.alloc (.map #[] 0)).alloc (.cells (Wp d S y A B F f.1.size).toArray 66)).drew.1[f.1.size+1]?=some (.cells (Wp d S y A B F f.1.size).toArray 66 (0,0)):=by
      show ((f.alloc (.map #[] 0)).alloc (.cells (Wp d S y A B F f.1.size).toArray 66)).1[f.1.size+1]?=_;have e:f.1.size+1=(f.alloc (.map #[] 0)).1.size:=by simp
      rw[e,BE]
     generalize ((f.alloc (.map #[] 0)).alloc (.cells (Wp d S y A B F f.1.size).toArray 66)).drew=w9 at B9 b5 d1 ⊢;go_wp2;go_ret2;rw[H0.out];have BB:=B8.trans (B9.mono B8.size);refine⟨.inl ⟨rfl,f.1.size+1,rfl,λT hT=>?_,by omega⟩,BB⟩;have e7:(Ny D.newest D.n S.gen).n=D.n:=qi6 _ _;have C9:Yu w9 (f.1.size+1) 36 (λk=>w.1.size<=k/\k<f.1.size) (Ny D.newest D.n S.gen):=by
      have hS:=(hC.mono (S':=λk=>w.1.size<=k) λk K=>by omega).shrink;refine Yu.around (p:=pc) (o:=0) hS k1 d1 (λj hj=>?_) (λk K=>by omega) λk K _=>B9.block k K
      rw[List.getElem?_toArray,qk2];match j,hj with
      |0,_=>exact b6.symm▸k2.symm
      |1,_=>exact b7.symm▸k3.symm
      |2,_=>exact b9.symm▸k4.symm
      |3,_=>exact c9.symm▸k5.symm
     have hP:Pl.Gh D.newest D.n=⟨S,Ny D.newest D.n S.gen,λ_=>none⟩:=by unfold Pl.Gh;rw[P.out]
     rw[hP];refine⟨f.1.size,_,[],0,λ_=>undef,_,⟨d1,qtn d S _ _ _ _ _,C9,b5,⟨λe he=>(by cases he),List.nodup_nil,List.nodup_nil,λe he=>(by cases he)⟩,λa=>?_,λe he=>(by cases he),λa b h=>?_,λa b h=>(by cases h),⟨by omega,by omega,λk K=>K.1⟩,λk K=>by omega,hT,⟨hC.ok,d7,Y.out,by rw[e7];exact d0.out,by rw[<-P.out];exact e4.out,λa b h=>(by cases h)⟩,qk0 Y.out⟩⟩
     ·unfold Pl.live;split<;>rfl
     ·unfold Pl.live at h;split at h<;>cases h
    ·have H5:=HI (show Eo D.newest false D.n=5 from Qcc O.out (by rw[P.out];exact hn));have nb:(E != 0)=true:=by simpa using d3
     clear hn d3;go_wp2;go_ret2;rw[H5.out];exact⟨.inr ⟨by omega,rfl⟩,X.trans (b8.mono X.size)⟩
   ·have O:=HI (show Eo D.newest false D.n=27 from qvs (λh=>R (by rw[<-P.out];exact h.2)));have e8:(S.Qa != (D.n:Int))=true:=by simpa using R
    clear a5 R;go_enter func25,ntmps25
    go_wp2_with (first
     |(go_at_call 41;refine Q.mono ?_;rintro e w1 ⟨rfl,rfl⟩)
     |(go_at_call 42;have hh:=J;refine (a2.out w2 J).mono ?_;rintro e w3 ⟨A3,n3,rfl,s3,_,b3,_⟩;have W:=J.trans (b3.mono J.size))
     |(go_at_call 42;refine (Z.out w (AI _ _)).mono ?_;rintro e w2 ⟨A2,n2,rfl,s2,_,J,_⟩)
     |(go_at_call 43;have hN:=q7o A2 n2 n2 x0 A3 n3 n3 x1 w3 (s2.below b3) s3 (ht.below W b0);unfold q3m at hN;rw[HS.out,a9] at hN;refine hN.mono ?_;rintro e H ⟨rfl,b4⟩;have B4:=W.trans (b4.mono W.size))
     |(refine Es rfl (.tmp 8) (.tmp 29) rfl H.1.size rfl S Sp.zero rfl (SB.new H Sp.zero _) ?_;intro U X6 a4 T6)
     |fail)
    have a3:Below H.1.size H U:=(Ql).trans (a4 _ (AE _));have M:=B4.trans (a3.mono B4.size);have L6:=L.below M;obtain⟨_,_,_,_,_,a8⟩:=L6;have zX:H.1.size<U.1.size:=X6.lt;have g1:∀u:Grown U,u.to.cell? ⟨H.1.size,1,none⟩=some (.int .i64 S.Qa):=Grown.cell X6.c1 zX;have I:=HI (λu:Grown U=>q98 (a8.keep λk K _=>u.ok.block k K));refine Ug (by kernel_rfl) (by kernel_rfl) ?_;repeat (go_big_quiet_step (first
     |(go_at_call 23;exact Calls.J7 (I.out _))
     |fail))
    refine wpQuiet_nil ?_;rintro _ ⟨u,rfl⟩;have X:=M.trans (u.ok.mono M.size);go_wp2;go_ret2;rw[O.out];exact⟨.inr ⟨by omega,rfl⟩,X⟩
  ·have a9:=hE;have O:=HI (show Eo D.newest false D.n=27 from qvs (λh=>by have:=h.1;rw[HE.out,hE] at this;cases this));go_enter func25,ntmps25
   go_wp2_with (first
     |(go_at_call 41;refine Q.mono ?_;rintro e w1 ⟨rfl,rfl⟩)
     |(go_at_call 42;have hh:=J;refine (a2.out w2 J).mono ?_;rintro e w3 ⟨A3,n3,rfl,s3,_,b3,_⟩;have W:=J.trans (b3.mono J.size))
     |(go_at_call 42;refine (Z.out w (AI _ _)).mono ?_;rintro e w2 ⟨A2,n2,rfl,s2,_,J,_⟩)
     |(go_at_call 43;have hN:=q7o A2 n2 n2 x0 A3 n3 n3 x1 w3 (s2.below b3) s3 (ht.below W b0);unfold q3m at hN;rw[HS.out,a9] at hN;refine hN.mono ?_;rintro e H ⟨rfl,b4⟩;have B4:=W.trans (b4.mono W.size))
     |(refine Es rfl (.tmp 8) (.tmp 29) rfl H.1.size rfl S Sp.zero rfl (SB.new H Sp.zero _) ?_;intro U X6 a4 T6)
     |fail)
   have a3:Below H.1.size H U:=(Ql).trans (a4 _ (AE _));have M:=B4.trans (a3.mono B4.size);go_quiet (fail)
   generalize d9:World.drewN U _=w7;have X:Below w.1.size w w7:=by rw[<-d9];exact⟨M.os,M.tape,M.output,M.size,M.block⟩
   clear d9;go_wp2;go_ret2;rw[O.out];exact⟨.inr ⟨by omega,rfl⟩,X⟩
 ·rw[G] at Q;have H4:=HI (show Eo D.newest true D.n=4 from Qcb);go_enter func25,ntmps25
  go_wp2_with (first
   |(go_at_call 41;refine Q.mono ?_;rintro e w1 ⟨rfl,rfl⟩)
   |fail)
  go_ret2;rw[H4.out];exact⟨.inr ⟨by omega,rfl⟩,AI _ _⟩
end
